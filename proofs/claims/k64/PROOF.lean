import PyProof.Rows.All
import Wide.All
import OpenK.AllK
import Wide.FinOn
import HandS.ForMost
import HandS.IsInst
import HandS.Zip
import HandS.Style
import HandS.Walk
import HandS.Flow
import HandS.Conv
import HandS.RaiseMore
import HandS.NoneIn
import HandS.WordsList
import HandS.Deep
import HandS.Exc
import HandS.ExcOwn
import HandS.WordsExc
import HandS.ExcInit
import HandS.ExcIs
import KE.KExcIs
import KE.KExcInit
import KE.KTryMore
import HandS.SortRule
import HandS.SortInts
import HandS.Strs
import HandS.Wide
import HandS.DictComp
import PySem.Challenge.RW_partnercall_k64_whole_repetitions_togeth
set_option Elab.async false
set_option linter.all false
set_option maxRecDepth 100000
set_option maxHeartbeats 4000000
namespace RZ
end RZ
namespace Pc
open PySem PySem.Spec PyProof.Rows L2 RZ
/-! ### heaps -/
/-- all that was tracked, but for b, is as it was -/
def Keep (b : Addr) (H H' : Hp) : Prop := ∀ a o, a ≠ b → H a = some o → H' a = some o
theorem Keep.refl (b : Addr) (H : Hp) : Keep b H H := fun _ _ _ h => h
theorem Keep.trans {b : Addr} {H H1 H2 : Hp} (p : Keep b H H1) (q : Keep b H1 H2) : Keep b H H2 := fun a o n h => q a o n (p a o n h)
theorem Keep.of_same {b : Addr} {H H' : Hp} (s : Same H H') : Keep b H H' := fun a o _ h => s a o h
theorem same_new {H : Hp} {p : Addr} {o : HO} (h : H p = none) : Same H (upd H p o) := fun b x e => by
  rw [upd_ne (ne_of_none e h)]; exact e
theorem keep_upd {H : Hp} {b : Addr} {o : HO} : Keep b H (upd H b o) := fun a x n e => by
  rw [upd_ne n]; exact e
/-- a list, a tuple under Keep -/
theorem Keep.tup {b : Addr} {H H' : Hp} (k : Keep b H H') {a : Addr} {xs ys : List V} (hb : H b = some (.lst ys)) (h : H a = some (.tup xs)) : H' a = some (.tup xs) :=
  k a _ (fun e => by rw [e, hb] at h; cases h) h
/-! ### small numbers -/
theorem one0 (c : Prop) [Decidable c] : (0 : Int) ≤ (if c then 1 else 0) ∧ (if c then (1 : Int) else 0) ≤ 1 := by
  split <;> decide
theorem in64 {i : Int} (h : 0 ≤ i ∧ i ≤ 1) : -(2 ^ 64) < i ∧ i < 2 ^ 64 := ⟨by omega, by omega⟩
/-! ### the source of draws -/
/-- at b a source that serves n more draws -/
def Box (n : Nat) (H : Hp) (b : Addr) : Prop := ∃ x y z : Int, H b = some (.lst [.int x, .int y, .int z]) ∧ 0 ≤ x ∧ 0 ≤ y ∧ y < 2 ^ 62 ∧ 0 ≤ z ∧ z + n ≤ 1000000000
theorem Box.lst {n : Nat} {H : Hp} {b : Addr} (h : Box n H b) : ∃ ys, H b = some (.lst ys) := let ⟨_, _, _, e, _⟩ := h; ⟨_, e⟩
theorem Box.mono {n m : Nat} {H : Hp} {b : Addr} (h : Box n H b) (l : m ≤ n) : Box m H b := by
  obtain ⟨x, y, z, e, h1, h2, h3, h4, h5⟩ := h
  exact ⟨x, y, z, e, h1, h2, h3, h4, by omega⟩
theorem Box.same {n : Nat} {H H' : Hp} {b : Addr} (h : Box n H b) (s : Same H H') : Box n H' b := by
  obtain ⟨x, y, z, e, r⟩ := h
  exact ⟨x, y, z, s _ _ e, r⟩
theorem Box.keep {n : Nat} {H H' : Hp} {b c : Addr} (h : Box n H b) (k : Keep c H H') (d : b ≠ c) : Box n H' b := by
  obtain ⟨x, y, z, e, r⟩ := h
  exact ⟨x, y, z, k _ _ d e, r⟩
theorem Box.ne_new {n : Nat} {H : Hp} {b p : Addr} (h : Box n H b) (np : H p = none) : b ≠ p := by
  obtain ⟨x, y, z, e, r⟩ := h
  exact ne_of_none e np
theorem Box.ne_tup {n : Nat} {H : Hp} {b p : Addr} {xs : List V} (h : Box n H b) (e2 : H p = some (.tup xs)) : p ≠ b := by
  obtain ⟨x, y, z, e, r⟩ := h
  intro q; rw [q, e] at e2; cases e2
end Pc
namespace Pc
open PySem PySem.Spec PyProof.Rows L2 RZ
/-! ### errors of the program: made -/
section
open PySem.W Builtin Builtin.ObjectAttr
variable {prog : Program} {w : World} {A : Around} {R : Result → Shared → Prop} {hp : Heap} {g : Array GenState} {d : Drawn} {t : Nat} {os : OsState} {B : String} {bmB : List Value}
/-- the first field of an error that has no dict yet -/
theorem osa_first {K : Frag} {f : Str} {tk : Tok} {v : Value} {x C : Addr} {fv : Array Value} {cd : ClassData} (SF : StoreFacts B bmB "object.__setattr__" "object") (X : K.In hp)
    (hx : hp.get? x = some { cls := .ref C, data := .fields fv }) (hcd : clsIn K C = some cd) (ho : excOver K C bmB = true) (hh : cd.hasDict = true) (hf : takerIn K C f = some none)
    (hq : ∀ h' tk' dx, (∀ b o, b ≠ x → hp.get? b = some o → h'.get? b = some o) → hp.objs.size ≤ dx → dx ≠ x →
      h'.get? x = some { cls := .ref C, dict := some dx, data := .fields fv } → h'.Ns1 dx (fun y => if y = f then some v else none) → R (.ok (.ret .none)) ⟨h', g, d, tk', os⟩) :
    codeAny (model prog w) A (.call (.builtin "object.__setattr__") ⟨[.ref x, .str f tk, v], []⟩) R ⟨hp, g, d, t, os⟩ := by
  have hne : x ≠ hp.objs.size := fun e => absurd (Heap.lt_size hx) (by rw [← e]; exact Nat.lt_irrefl x)
  have LC : Looks (model prog w) hp (classData C) cd := looks_clsIn X hcd
  refine osa_openX (s := ⟨hp, g, d, t, os⟩) (od := none) SF X ⟨hx, rfl, rfl, trivial⟩ ho hf fun b => ?_
  obtain ⟨c1, c2, c3, c4, c5, c6, c7, c8, c9, c10, c11⟩ := cd
  dsimp only at hh; subst hh
  dsimp only
  unfold storeInOwnDict ownDictForStores
  repeat (first | with_reducible refine HandSPX.store_in_new ?_ ?_ | with_reducible refine wpAny_loadPart_at hx ?_ | with_reducible refine LC.at ?_ | wp_step)
  · exact ⟨_, #[], _, (Heap.get?_update_ne _ _ _ _ hne.symm).trans (Heap.get?_push_at rfl rfl), rfl, fun e he => absurd he (by simp), fun _ => rfl⟩
  · intro h' tk' n1 n2
    refine hq h' tk' hp.objs.size (fun b o q r => ?_) (Nat.le_refl _) hne.symm ?_ n1
    · exact (n2.2 b (Nat.ne_of_lt (Heap.lt_size r))).trans ((Heap.get?_update_ne _ _ _ _ q).trans (Heap.get?_push_of_some _ r))
    · exact (n2.2 x hne).trans (Heap.get?_update_self _ (Heap.get?_push_of_some _ hx) rfl)
end
/-- what is known of a built-in error class -/
structure Bs (B newId initId : String) (bmB : List Value) : Prop where
  fb : ExcBaseFacts B newId initId bmB
  sf : StoreFacts B bmB "object.__setattr__" "object"
theorem bsV : Bs "ValueError" "ValueError.__new__" "ValueError.__init__" [.type "ValueError", .type "Exception", .type "BaseException", .type "object"] := ⟨F.excBase_ValueError, F.store_ValueError⟩
theorem bsL : Bs "LookupError" "LookupError.__new__" "LookupError.__init__" [.type "LookupError", .type "Exception", .type "BaseException", .type "object"] := ⟨F.excBase_LookupError, F.store_LookupError⟩
theorem bsR : Bs "RuntimeError" "RuntimeError.__new__" "RuntimeError.__init__" [.type "RuntimeError", .type "Exception", .type "BaseException", .type "object"] := ⟨F.excBase_RuntimeError, F.store_RuntimeError⟩
theorem bsO : Bs "OverflowError" "OverflowError.__new__" "OverflowError.__init__" [.type "OverflowError", .type "ArithmeticError", .type "Exception", .type "BaseException", .type "object"] := ⟨F.excBase_OverflowError, F.store_OverflowError⟩
/-- an error class of the program, straight over a built-in one -/
structure Own (K : PySem.W.Frag) (newId : String) (bmB : List Value) (C : Addr) : Prop where
  cls : ∃ nm q N bs sn sub ab col dd k0 k1 k2 k3 k5, K.lookup C = some (excClassObj nm q C N bs bmB true sn sub ab col dd k0 k1 k2 k3 k5 newId)
  over : PySem.W.excOver K C bmB = true
  sa : PySem.W.findIn K (.ref C) "__setattr__" = some (some (.builtin "object.__setattr__"))
  ga : PySem.W.findIn K (.ref C) "__getattribute__" = some (some (.builtin "BaseException.__getattribute__"))
  gg : PySem.W.findIn K (.ref C) "__getattr__" = some none
  exC : PySem.W.subIn K (.ref C) (.type "BaseException") = some true
  tyC : PySem.W.typeIn K (.ref C) = some (.type "type")
  kC : PySem.W.keepIn K (.ref C) = true
  hdC : PySem.W.hasDictIn K C = true
  clC : PySem.W.findIn K (.ref C) "__class__" = some (some (.builtin "object.__class__"))
  mrO : PySem.W.mroIn K C (.type "object") = some true
theorem Own.data {K : PySem.W.Frag} {newId : String} {bmB : List Value} {C : Addr} (T : Own K newId bmB C) : ∃ cd, PySem.W.clsIn K C = some cd ∧ cd.hasDict = true := by
  obtain ⟨nm, q, N, bs, sn, sub, ab, col, dd, k0, k1, k2, k3, k5, e⟩ := T.cls
  refine ⟨{ name := nm, bases := bs, mro := .ref C :: bmB, ns := N, qualname := q, hasDict := true, slotNames := sn, subclasses := sub, abstract := ab, collection := col, hasDel := false }, ?_, rfl⟩
  unfold PySem.W.clsIn
  rw [e] <;> rfl
theorem taker_of {K : PySem.W.Frag} {C : Addr} {f : Str} (h : PySem.W.findIn K (.ref C) f = some none) : PySem.W.takerIn K C f = some none := by
  unfold PySem.W.takerIn
  rw [h]; rfl
section
variable {X : Cx} {pins : List (Addr × Obj)} {σ : L2.St} {H H1 H2 : Hp} {s : Shared} {a C dx : Addr} {f : Str} {newId initId B : String} {bmB : List Value}
/-- an object that stands in the heap, untracked and not of the entry, is tracked from now on -/
theorem adopt {o : HO} (I : Inv X pins σ H s) (hn : H a = none) (n0 : X.s_0.heap.get? a = none) (nL : a ≠ X.env.locals) (nC : ∀ x c, X.env.cells.lookup x = some c → c ≠ a) (nP : ∀ p ∈ X.pn ++ pins, p.1 ≠ a)
    (new : ObjOk X.prog X.w (upd H a o) s.heap a o) : Inv X pins σ (upd H a o) s := by
  have up : ∀ {b : Addr} {u : HO}, H b = some u → upd H a o b = some u := fun {b u} e => by rw [upd_ne (ne_of_none e hn)]; exact e
  refine ⟨I.ok, I.os, I.bare, ⟨I.base.keep, I.base.slot, fun b q e n x => ?_, I.base.there, fun b xs e => up (I.base.tups b xs e), fun b q u e => up (I.base.frzs b q u e), fun b ps e => ?_⟩, I.loc, I.cell, ?_, fun x c e => ?_, fun p hp => ?_, fun b u e => ?_, I.len⟩
  · rw [upd_ne (fun z => by rw [z, n0] at e; cases e)]
    exact I.base.free b q e n x
  · obtain ⟨m, z⟩ := I.base.tbls b ps e
    exact ⟨m, up z⟩
  · rw [upd_ne (Ne.symm nL)]; exact I.free
  · rw [upd_ne (nC x c e)]; exact I.freeC x c e
  · obtain ⟨e, n, r⟩ := I.pin p hp
    exact ⟨e, by rw [upd_ne (nP p hp)]; exact n, r⟩
  · by_cases hb : b = a
    · subst hb
      rw [upd_same] at e; cases e
      exact new
    · rw [upd_ne hb] at e
      exact (I.hok b u e).stay (fun _ _ _ z => z) (fun c z => up z) (fun c xs z => up z)
theorem low_ne {n : Nat} {b a : Addr} (h : b < n) (h' : n ≤ a) : b ≠ a := Nat.ne_of_lt (Nat.lt_of_lt_of_le h h')
theorem get_lt_size {h : Heap} {b : Addr} {o : Obj} (e : h.get? b = some o) : b < h.objs.size := Heap.lt_size e
/-- self.f = y -/
theorem ost_one {y : V} {u : Value} {Q : Unit → Shared → Prop} {E : Value → Shared → Prop} {A : Around} (T : Own X.K newId bmB C) (SF : StoreFacts B bmB "object.__setattr__" "object") (I : Inv X pins σ H s) (e : H a = some (exo a C none)) (hno : PySem.W.findIn X.K (.ref C) f = some none) (ry : RelV y u)
    (h : ∀ dx s', H dx = none → dx ≠ a → Inv X pins σ (upd (upd H a (exo a C (some dx))) dx (exd dx [(f, y)])) s' → Q () s') : wpAny (model X.prog X.w) A (setAttr (.ref a) f u) Q E s := by
  obtain ⟨cd, hcd, hh⟩ := T.data
  obtain ⟨t1, ho⟩ := exo_at I.hok e
  obtain ⟨hp, g, d, t, os⟩ := s
  refine PySem.W.set_plain I.kIn (ox := { cls := .ref C, dict := none, data := .fields #[.ref t1, .none, .none, .none, .bool false, .none] }) (od := none) ⟨ho, rfl, rfl, trivial⟩ T.sa ?_
  refine osa_first SF I.kIn ho hcd T.over hh (taker_of hno) fun h' tk' dx k dn dne hx hns => ?_
  have hnd : H dx = none := I.hok.fresh dn
  have J := I.write (t' := tk') (x := a) (e := a) (o := exo a C (some dx)) (by rw [e]; exact True.intro) (.inl rfl) k ⟨_, hx⟩ (exo_ok hx)
  refine h dx _ hnd dne (adopt J (by rw [upd_ne dne]; exact hnd) ?_ ?_ ?_ ?_ (exd_ok hns (relO_put (fs := []) ry fun _ => True.intro)))
  · cases z : X.s_0.heap.get? dx with
    | none => rfl
    | some o => exact absurd rfl (low_ne (Nat.lt_of_lt_of_le (Heap.lt_size z) I.sz) dn)
  · exact Ne.symm (low_ne I.lt dn)
  · intro x c ec
    obtain ⟨v, ob, eo, _⟩ := I.cell x c ec
    exact low_ne (Heap.lt_size eo) dn
  · intro p hp'
    exact low_ne (Heap.lt_size (I.pin p hp').1) dn
/-- B.__init__(self, ..) -/
theorem oinit_any {us : List Value} {Q : Value → Shared → Prop} {E : Value → Shared → Prop} {A : Around} (T : Own X.K newId bmB C) (F : ExcBaseFacts B newId initId bmB) (I : Inv X pins σ H s) (e : H a = some (exo a C none)) (hl : us.length ≤ sizeLine) (h : ∀ s', Inv X pins σ H s' → Q .none s') :
    wpAny (model X.prog X.w) A (call (.builtin initId) (.ref a :: us)) Q E s := by
  obtain ⟨nm, q, N, bs, sn, sub, ab, col, dd, k0, k1, k2, k3, k5, hC⟩ := T.cls
  obtain ⟨t1, ho⟩ := exo_at I.hok e
  obtain ⟨hp, g, d, t, os⟩ := s
  refine wpAny_call (HandSPX.init_base F (fun _ => rfl) (I.kIn _ _ hC) ho hl fun h' t2 k hx => ?_)
  have J := I.write (t' := t) (x := a) (e := a) (o := exo a C none) (by rw [e]; exact True.intro) (.inl rfl) k ⟨_, hx⟩ (exo_ok hx)
  have eu : upd H a (exo a C none) = H := by
    funext b
    unfold upd
    split
    · rename_i z; rw [z, e]
    · rfl
  rw [eu] at J
  exact h _ J
def tBi (K : PySem.W.Frag) (newId : String) (bmB : List Value) (ta : TA) : TE := fun σ H Q => ta σ H fun vs H1 => ∃ (a C : Addr) (ws : List V), vs = .ref a :: ws ∧ ws.length ≤ 1000 ∧ Own K newId bmB C ∧ H1 a = some (exo a C none) ∧ Q .non H1
def tOs (K : PySem.W.Frag) (newId : String) (bmB : List Value) (f : Str) (to te : TE) : TS := fun D σ H => te σ H fun y H1 => to σ H1 fun x H2 => ∃ a C : Addr, x = .ref a ∧ Own K newId bmB C ∧ PySem.W.findIn K (.ref C) f = some none ∧ H2 a = some (exo a C none) ∧
  ∀ dx, H2 dx = none → dx ≠ a → D.nx σ (upd (upd H2 a (exo a C (some dx))) dx (exd dx [(f, y)]))
theorem pe_binit {n : Str} {o e : Expr} {es : List Expr} {ta : TA} {p1 p2 pos : Pos} {pl : Sem Bool} (F : ExcBaseFacts B newId initId bmB) (hg : Gl X n) (hm : X.mg n = none) (hv : bootBuiltins n = some (.type B)) (hn : n ≠ "__name__") (hdb : (n == ("__debug__" : Str)) = false)
    (hty : typeOf (.type B) = pure (.type "type")) (hst : Manifest.isStub B = false) (hha : PySem.W.handedIn (.builtin initId) = true) (vV : PySem.W.findCls X.K (.type B) (.type "type") "__init__" = some (.val (.builtin initId))) (ha : PA X (e :: es) ta)
    (hc : eval (.Call (.Attribute (.Name n p1) "__init__" p2) (e :: es) [] pos) X.env = (do
      let ov ← eval (.Name n p1) X.env
      standAt p2.atName
      let (f, first) ← holding [ov] (getMethod ov "__init__" pl)
      callWith pos f first (backTo pos (starEach (e :: es) X.env)) (backToKw pos (keywordEach [] X.env))) := by rfl)
    (he : starEach (e :: es) X.env = (false, eval e X.env) :: starEach es X.env := by rfl) (hpl : (backTo pos (starEach es X.env)).any (·.1) = false := by rfl) :
    PE X (.Call (.Attribute (.Name n p1) "__init__" p2) (e :: es) [] pos) (tBi X.K newId bmB ta) := by
  refine ⟨fun pins s σ H Q I h => PySem.W.methodCall_KW (ld_blt I hg hm hv ?_ hn hdb) hc⟩
  obtain ⟨m, fr⟩ := I.fr
  refine PySem.W.method_type fr I.ok.mod.kin hty hst vV hha ?_
  show wpAny _ _ (callWith pos (Value.builtin initId) [] (backTo pos (starEach (e :: es) X.env)) []) _ _ _
  refine PyProof.Rows.callWith_method1 (thn (ha.run pos pins _ σ H _ (I.tok _) h) fun us s1 ⟨vs, H1, I1, r1, a, C, ws, ev, hl, T, ea, q⟩ => ?_) he hpl
  subst ev
  cases r1 with
  | @cons _ u0 _ ur ra rr =>
    obtain rfl : u0 = Value.ref a := ra
    exact oinit_any T F I1 ea (by rw [← Paired.length rr, sizeLine_eq]; omega) fun s' J => ⟨.non, H1, J, rfl, q⟩
theorem ps_os {o e : Expr} {to te : TE} {p' pos : Pos} (SF : StoreFacts B bmB "object.__setattr__" "object") (ho : PE X o to) (he : PE X e te) (hs : swapsWith e (some (.Attribute o f p')) pos.line X.env = pure false := by rfl) : PS X (.Assign [.Attribute o f p'] e pos) (tOs X.K newId bmB f to te) := by
  refine ⟨fun pins s σ H D I h => plainObj_wpAny_Assign_Attribute (thn (he.run pins s σ H _ I h) fun v s1 ⟨y, H1, I1, r1, q1⟩ => thn (ho.run pins s1 σ H1 _ I1 q1) fun u s2 ⟨x, H2, I2, r2, a, C, ex, T, hno, ea, q⟩ => ?_) hs⟩
  subst ex
  obtain rfl : u = Value.ref a := r2
  exact ost_one T SF I2 ea hno r1 fun dx s' n ne J => ⟨σ, _, J, q dx n ne⟩
/-- the new error is let go: the heap without it -/
theorem mk_gone {hp hp2 h2 : Heap} {g1 g2 : Array GenState} {d1 d2 : Drawn} {t1 t2 : Nat} {os1 os2 : OsState} {dv : Option Addr} (I1 : Inv X pins σ H1 ⟨hp, g1, d1, t1, os1⟩)
    (ha : hp.objs.size ≤ a) (k : ∀ b o, hp.get? b = some o → hp2.get? b = some o) (un : Un (frs X.stack) [] (upd H1 a (exo a C none)) H2 hp2 h2) (hok : HOk X.prog X.w H2 h2) (ho : os2 = os1) (hb : AllBare g2) (ea : H2 a = some (exo a C dv)) :
    ∃ (t0 : Addr) (G : Heap), Inv X pins σ (del H2 a) ⟨G, g2, d2, t2, os2⟩ ∧ (∀ b o, G.get? b = some o → h2.get? b = some o) ∧ G.get? a = none ∧
      h2.get? a = some ({ cls := .ref C, dict := dv, data := .fields #[.ref t0, .none, .none, .none, .bool false, .none] } : Obj) := by
  obtain ⟨t0, hoe⟩ := exo_at hok ea
  have hn : H1 a = none := I1.hok.fresh ha
  obtain ⟨G, g1', g2'⟩ := restrict h2 fun b => decide (b ≠ a)
  have gk : ∀ b, b ≠ a → G.get? b = h2.get? b := fun b q => g1' b (decide_eq_true q)
  have ga : G.get? a = none := g2' a (decide_eq_false (fun z => z rfl))
  have na : ∀ {b : Addr} {o : Obj}, hp.get? b = some o → b ≠ a := fun q => low_ne (Heap.lt_size q) ha
  have up : ∀ {b : Addr}, b ≠ a → H1 b = none → upd H1 a (exo a C none) b = none := fun q n => by rw [upd_ne q]; exact n
  have tr : ∀ {b : Addr} {u : HO}, H1 b = some u → upd H1 a (exo a C none) b = some u ∧ b ≠ a := fun q => ⟨by rw [upd_ne (ne_of_none q hn)]; exact q, ne_of_none q hn⟩
  have U : Un (frs X.stack) [] H1 (del H2 a) hp G := {
    keep := fun b o z n hf hx => by rw [gk b (na z)]; exact un.keep b o (k b o z) (up (na z) n) hf hx
    slot := fun b o z n hf hx => by rw [gk b (na z)]; exact un.slot b o (k b o z) (up (na z) n) hf hx
    free := fun b o z n hx => by rw [del_ne (na z)]; exact un.free b o (k b o z) (up (na z) n) hx
    there := fun b o z hx => by rw [gk b (na z)]; exact un.there b o (k b o z) hx
    tups := fun b xs z => by rw [del_ne (tr z).2]; exact un.tups b xs (tr z).1
    frzs := fun b o v z => by rw [del_ne (tr z).2]; exact un.frzs b o v (tr z).1
    tbls := fun b ps z => by rw [del_ne (tr z).2]; exact un.tbls b ps (tr z).1 }
  have hok3 : HOk X.prog X.w (del H2 a) G := fun b o z => by
    have hba : b ≠ a := fun e => by rw [e, del_same] at z; cases z
    rw [del_ne hba] at z
    have noa : ∀ {c : Addr}, H2 c = some (.own b) → c ≠ a := fun hc => at_ne ea hc exo_own
    refine (hok b o z).stay (fun c v hc y => ?_) (fun c hc => by rw [del_ne (noa hc)]; exact hc) (fun c xs hc => by rw [del_ne (at_ne ea hc exo_tup)]; exact hc)
    have hca : c ≠ a := hc.elim (fun q => by rw [q]; exact hba) noa
    rw [gk c hca]; exact y
  have J : Inv X pins σ (del H2 a) ⟨G, g2, d2, t2, os2⟩ := I1.call' (ch := []) ho U hok3 hb (fun b z => absurd z (by simp))
  refine ⟨t0, G, J, fun b o z => ?_, ga, hoe⟩
  by_cases hba : b = a
  · rw [hba, ga] at z; cases z
  · exact (gk b hba).symm.trans z
/-- C(e, ..), C's own __init__ keeping sp -/
def tMkE (C : Addr) (sp : Sp) (ta : TA) : L2.St → Hp → XK → Prop := fun σ H Q => ta σ H fun vs H1 => vs.length ≤ 1000 ∧ ∀ a, H1 a = none → sp (.ref a :: vs) (upd H1 a (exo a C none))
  (fun v H2 => v = .non ∧ ((H2 a = some (exo a C none) ∧ Q (.ref C) none (del H2 a)) ∨ ∃ (d : Addr) (fs : List (Str × V)), H2 a = some (exo a C (some d)) ∧ H2 d = some (exd d fs) ∧ Q (.ref C) (some d) (upd (del H2 a) d (.xd fs)))) (fun _ _ _ => False)
/-- what such a call leaves -/
theorem made_run {vs : List V} {us : List Value} {fI : Addr} {k : Nat} {fd : FuncData} {ps : List Str} {sp : Sp} {Q : XK} {CX : CXT} (T : Own X.K newId bmB C) (F : ExcBaseFacts B newId initId bmB) (iC : PySem.W.findIn X.K (.ref C) "__init__" = some (some (.ref fI))) (tI : PySem.W.typeIn X.K (.ref fI) = some (.type "function"))
    (F1 : FnOk X.prog X.w X.K X.mg X.base CX k fI fd ps sp) (hr : Room (k + 1) X.A) (hb : Binds X.K fd ps []) (hx : Passes CX X (fun _ _ _ => False)) (I1 : Inv X pins σ H1 s) (r1 : Vals vs us) (hz : vs.length ≤ 1000)
    (q1 : ∀ a, H1 a = none → sp (.ref a :: vs) (upd H1 a (exo a C none)) (fun v H2 => v = .non ∧ ((H2 a = some (exo a C none) ∧ Q (.ref C) none (del H2 a)) ∨ ∃ (d : Addr) (fs : List (Str × V)), H2 a = some (exo a C (some d)) ∧ H2 d = some (exd d fs) ∧ Q (.ref C) (some d) (upd (del H2 a) d (.xd fs)))) (fun _ _ _ => False)) :
    wpAny (model X.prog X.w) X.A (call (.ref C) us) (MkP X pins σ Q) X.xe s := by
  obtain ⟨nm, q, N, bs, sn, sub, ab, col, dd, k0, k1, k2, k3, k5, hC⟩ := T.cls
  obtain ⟨hp, g, dr, tk, os⟩ := s
  have hsz : hp.objs.size ≤ hp.objs.size + 1 := Nat.le_succ _
  have hq := q1 (hp.objs.size + 1) (I1.hok.fresh hsz)
  obtain ⟨hp2, ehp⟩ : ∃ hp2, hp2 = (hp.push (PySem.W.kdv_tup us)).push (HandSPX.excO C hp.objs.size) := ⟨_, rfl⟩
  have kk : ∀ b o, hp.get? b = some o → hp2.get? b = some o := fun b o e => by rw [ehp]; exact Heap.get?_push_of_some _ (Heap.get?_push_of_some _ e)
  have hget : hp2.get? (hp.objs.size + 1) = some (HandSPX.excO C hp.objs.size) := by rw [ehp]; heap_get
  have I2 : Inv X pins σ (upd H1 (hp.objs.size + 1) (exo (hp.objs.size + 1) C none)) ⟨hp2, g, dr, tk, os⟩ := I1.laid (t' := tk) kk hsz (exo_ok hget)
  have r2 : Vals (V.ref (hp.objs.size + 1) :: vs) (Value.ref (hp.objs.size + 1) :: us) := .cons rfl r1
  have hl : (Value.ref (hp.objs.size + 1) :: us ++ []).length = ps.length := by
    rw [List.append_nil, ← r2.length]; exact F1.len _ _ _ _ hq
  have hus : us.length ≤ sizeLine := by rw [← Paired.length r1, sizeLine_eq]; omega
  refine wpAny_call (HandSPX.call_own F (fun _ => rfl) (I1.kIn _ _ hC) (PySem.W.looks_findIn I1.kIn iC) (fun self => PySem.W.bind_fn I1.kIn self tI) hus ?_)
  rw [← ehp]
  refine codeAny_mono (F1.run _ X.stack _ _ ⟨Value.ref (hp.objs.size + 1) :: us, []⟩ (Value.ref (hp.objs.size + 1) :: us) _ _ (fun _ _ _ => False) (hr.make C us []) (I2.env0.make C us []) ?_ r2 hq) fun r s' hq' => ?_
  · have z := hb ⟨hp2, g, dr, tk, os⟩ (Value.ref (hp.objs.size + 1) :: us) I2.kIn hl
    rw [List.append_nil] at z; exact z
  cases r with
  | error er => exact hx pins σ _ _ er s' I2 hq'
  | ok fl =>
    cases fl with
    | ret u =>
      obtain ⟨v, H2, os2, bare2, un2, hok2, rv, ev, alt⟩ := hq'
      subst ev
      obtain ⟨h2, g2, d2, t2, os'⟩ := s'
      refine ⟨rv, ?_⟩
      rcases alt with ⟨ea, q2⟩ | ⟨d, fs, ea, ed, q2⟩
      · obtain ⟨t0, G, J, kG, ge, hoe⟩ := mk_gone (d2 := d2) (t2 := t2) I1 hsz kk un2 hok2 os2 bare2 ea
        exact ⟨_, _, _, ⟨G, g2, d2, t2, os'⟩, _, .ref C, none, rfl, J, kG, ge, hoe, ⟨rfl, rfl⟩, rfl, rfl, del_same, rfl, bare2, raises_own T.exC T.tyC, q2⟩
      · obtain ⟨t0, G, J, kG, ge, hoe⟩ := mk_gone (d2 := d2) (t2 := t2) I1 hsz kk un2 hok2 os2 bare2 ea
        have hda : d ≠ hp.objs.size + 1 := fun z => by
          rw [z] at ed
          obtain ⟨mA, ⟨ob, es, ep, e1, e2, _⟩, _⟩ := exd_at hok2 ed
          rw [hoe] at e1
          have z2 := Option.some.inj e1
          subst z2
          cases e2
        have ed' : del H2 (hp.objs.size + 1) d = some (exd d fs) := by rw [del_ne hda]; exact ed
        obtain ⟨mA, ns, rel⟩ := exd_at J.hok ed'
        have J2 := J.write (t' := t2) (h' := G) (x := d) (e := d) (o := .xd fs) (by rw [ed']; exact True.intro) (.inl rfl) (fun _ _ _ z => z) (by obtain ⟨ob, _, _, e1, _⟩ := ns; exact ⟨ob, e1⟩) ⟨mA, ns, rel⟩
        exact ⟨_, _, _, ⟨G, g2, d2, t2, os'⟩, _, .ref C, some d, rfl, J2, kG, ge, hoe, ⟨rfl, rfl⟩, rfl, rfl, by rw [upd_ne (Ne.symm hda)]; exact del_same, rfl, bare2, raises_own T.exC T.tyC, q2⟩
    | next => exact False.elim hq'
    | brk => exact False.elim hq'
    | cont => exact False.elim hq'
theorem pmk_e {x : Str} {fI : Addr} {k : Nat} {fd : FuncData} {ps : List Str} {sp : Sp} {CX : CXT} {e : Expr} {es : List Expr} {ta : TA} {p pos : Pos} (T : Own X.K newId bmB C) (F : ExcBaseFacts B newId initId bmB) (iC : PySem.W.findIn X.K (.ref C) "__init__" = some (some (.ref fI))) (tI : PySem.W.typeIn X.K (.ref fI) = some (.type "function"))
    (F1 : FnOk X.prog X.w X.K X.mg X.base CX k fI fd ps sp) (hr : Room (k + 1) X.A) (hb : Binds X.K fd ps []) (hx : Passes CX X (fun _ _ _ => False)) (hg : Gl X x) (hm : X.mg x = some (.ref C)) (ha : PA X (e :: es) ta)
    (hdb : (x == ("__debug__" : Str)) = false := by decide) (he : starEach (e :: es) X.env = (false, eval e X.env) :: starEach es X.env := by rfl) (hpl : (backTo pos (starEach es X.env)).any (·.1) = false := by rfl) :
    PMk X (.Call (.Name x p) (e :: es) [] pos) (tMkE C sp ta) := by
  intro pins s σ H Q I h
  refine wpAny_Call_Name_kw (ld_glob I hg hm ?_ hdb)
  exact PySem.W.callWith_K (h₀ := X.base) I.ok.mod.kin T.kC (thn (ha.run pos pins s σ H _ I h) fun us s1 ⟨vs, H1, I1, r1, hz, q1⟩ => ⟨I1.kIn, made_run T F iC tI F1 hr hb hx I1 r1 hz q1⟩) he hpl
end
end Pc
namespace Pc
open PySem PySem.Spec PyProof.Rows L2 RZ
/-! ### errors of the program: caught, kept, looked at -/
section
open PySem.W
variable {M : Model} {K : Frag} {h : Heap}
theorem Looks.bind' {α β : Type} {x : Sem α} {f : α → Sem β} {a : α} {b : β} (hx : Looks M h x a) (hf : Looks M h (f a) b) : Looks M h (x >>= f) b := fun A Q E s k q =>
  wpAny_bind (hx A _ E s k (hf A Q E s k q))
theorem loop_all {α β : Type} {f : α → β → Sem (ForInStep β)} {b : β} : ∀ cs : List α, (∀ c ∈ cs, Looks M h (f c b) (.yield b)) → Looks M h (forIn cs b f) b
  | [], _ => by rw [List.forIn_nil]; exact .now
  | c :: cs, hc => by
    rw [List.forIn_cons]
    exact Looks.bind' (hc c List.mem_cons_self) (loop_all cs fun c' h' => hc c' (List.mem_cons_of_mem _ h'))
theorem loop_any {α β : Type} {f : α → β → Sem (ForInStep β)} {b b1 : β} : ∀ (bs : List Bool) (cs : List α), bs.length = cs.length → bs.any id = true → (∀ (i : Nat) (c : α) (y : Bool), cs[i]? = some c → bs[i]? = some y → Looks M h (f c b) (if y = true then .done b1 else .yield b)) → Looks M h (forIn cs b f) b1
  | [], [], _, e, _ => absurd e (by decide)
  | y :: bs, c :: cs, hl, e, hc => by
    rw [List.forIn_cons]
    have h0 := hc 0 c y rfl rfl
    cases y with
    | true => exact Looks.bind' h0 .now
    | false => exact Looks.bind' h0 (loop_any bs cs (Nat.succ.inj hl) e fun i c' y' h1 h2 => hc (i + 1) c' y' h1 h2)
/-- an except clause with several classes, of which one is the error's -/
theorem exm_some {cls : Value} {cs : List Value} {tp e : Addr} {o : Obj} {n : Nat} (X : K.In h) (LT : Looks M h (typeOf (.ref e)) cls) (hp : h.get? tp = some o) (hc : o.cls = .type "tuple") (hd : o.data = .seq cs.toArray n) (bs : List Bool) (hl : bs.length = cs.length) (hb : bs.any id = true)
    (hx : ∀ (i : Nat) (c : Value) (y : Bool), cs[i]? = some c → bs[i]? = some y → exmOne K cls c = some y) : Looks M h (excMatches (.ref e) (.ref tp)) true := by
  have at_ : ∀ c ∈ cs, ∃ y, exmOne K cls c = some y := fun c hm => by
    obtain ⟨i, hi, rfl⟩ := List.getElem_of_mem hm
    exact ⟨bs[i]'(by omega), hx i _ _ (List.getElem?_eq_getElem hi) (List.getElem?_eq_getElem _)⟩
  have L0 : Looks M h (isInstance (.ref tp) (.type "tuple")) true := fun A Q E s k q => by
    refine wpAny_bind (wpAny_typeOf_ref (k _ _ hp) ?_)
    rw [hc]
    exact (Looks.of_pure isSubtype_tuple_tuple) A Q E s k q
  unfold excMatches
  refine Looks.bind' L0 ?_
  dsimp only
  rw [if_pos rfl]
  refine Looks.bind' (a := some cs.toArray) (fun A Q E s k q => wpAny_seqItems (k _ _ hp) hd q) ?_
  refine Looks.bind' (a := cs) .now ?_
  refine Looks.bind' (a := PUnit.unit) (loop_all cs fun c hm => ?_) ?_
  · obtain ⟨y, hy⟩ := at_ c hm
    refine Looks.bind' (exm_cls X hy).1 ?_
    exact .now
  refine Looks.bind' LT ?_
  refine Looks.bind' (loop_any (b1 := (some true, ())) bs cs hl hb fun i c y h1 h2 => Looks.bind' (exm_cls X (hx i c y h1 h2)).2 ?_) ?_
  · cases y <;> exact .now
  · exact .now
end
end Pc
namespace Pc
open PySem PySem.Spec PyProof.Rows L2 RZ
/-- an error that was caught and is kept: its class, its dict -/
def exk (a : Addr) (cls : Value) (d : Option Addr) : HO := .ext fun h => ∃ (oe : Obj) (vs : Array Value), h.get? a = some oe ∧ Zc cls d oe ∧ oe.data = .fields vs
theorem exk_ok {P : Program} {w : World} {H : Hp} {h : Heap} {a : Addr} {cls : Value} {d : Option Addr} {oe : Obj} {vs : Array Value} (e : h.get? a = some oe) (z : Zc cls d oe) (q : oe.data = .fields vs) : ObjOk P w H h a (exk a cls d) :=
  ⟨⟨oe, vs, e, z, q⟩, ⟨oe, e⟩, fun _ _ ⟨o, v, r, r'⟩ k => ⟨o, v, k o r, r'⟩⟩
theorem exk_at {P : Program} {w : World} {H : Hp} {h : Heap} {a : Addr} {cls : Value} {d : Option Addr} (hok : HOk P w H h) (e : H a = some (exk a cls d)) : ∃ (oe : Obj) (vs : Array Value), h.get? a = some oe ∧ Zc cls d oe ∧ oe.data = .fields vs := by
  have x : ObjOk P w H h a (.ext fun h => ∃ (oe : Obj) (vs : Array Value), h.get? a = some oe ∧ Zc cls d oe ∧ oe.data = .fields vs) := hok a _ e
  exact x.1
theorem fly_keeps {B h h' : Heap} {l : List PySem.Env} {e : Addr} {Z : Obj → Prop} (R : HandSPX.FlyingZ B l e Z h) (k : ∀ b o, h.get? b = some o → h'.get? b = some o) : HandSPX.FlyingZ B l e Z h' := by
  obtain ⟨f1, f2, f3, oe, ws, T, oT, ts, r1, r2, r3, r4, r5, r6, r7, r8⟩ := R
  exact ⟨fun b o q => k b o (f1 b o q), f2, f3.of_keeps fun b o q _ => ⟨o, k b o q, rfl⟩, oe, ws, T, oT, ts, k _ _ r1, r2, r3, r4, r5, r6, k _ _ r7, r8⟩
/-- names of classes, one by one -/
def NamesAll (X : Cx) (es : List Expr) (cs : List Value) : Prop := Paired (fun (e : Expr) c => ∃ (x : Str) (p : Pos), e = .Name x p ∧ Names X x c) es cs
theorem names_run {X : Cx} {pins : List (Addr × Obj)} {σ : L2.St} {H : Hp} {s : Shared} {E : Value → Shared → Prop} {pos : Pos} (I : Inv X pins σ H s) :
    ∀ {es : List Expr} {cs : List Value} {Q : List Value → Shared → Prop}, NamesAll X es cs → Q cs s → wpAny (model X.prog X.w) X.A (spliced (backTo pos (starEach es X.env))) Q E s := by
  intro es cs Q h
  revert Q
  induction h with
  | nil => intro Q q; exact wpAny_items_nil q
  | cons h1 _ ih =>
    intro Q q
    obtain ⟨x, p, rfl, hg, hdb, hm⟩ := h1
    refine wpAny_items_cons ?_
    rcases hm with hm | ⟨hm, hv, hn⟩
    · exact ld_glob I hg hm (ih q) hdb
    · exact ld_blt I hg hm hv (ih q) hn hdb
/-- of which classes the error is -/
def Hits (K : PySem.W.Frag) (cls : Value) (cs : List Value) : Prop := ∃ bs : List Bool, bs.length = cs.length ∧ bs.any id = true ∧ ∀ (i : Nat) (c : Value) (y : Bool), cs[i]? = some c → bs[i]? = some y → PySem.W.exmOne K cls c = some y
/-- what 'except (..) as n: suite' wishes of an error of the body (slot i is n's): the error is kept -/
def wKept (K : PySem.W.Frag) (cs : List Value) (i : Nat) (ts : Addr → TS) (D : Ends) : WX := fun cls d σ H => Hits K cls cs ∧ ∀ a, H a = none →
  ts a { nx := fun σ' H' => D.nx (σ'.set i none) (upd H' a (exk a cls d)), rt := fun _ _ => False } (σ.set i (some (.ref a))) H
section
variable {X : Cx} {n : Str} {i : Nat} {body suite : List Stmt} {b₀ : Stmt} {es : List Expr} {cs : List Value} {kk : Nat} {tpos pos pos' : Pos} {tb : WX → TS} {ts : Addr → TS}
theorem ps_try_kept (hex : X.ex = []) (hs : X.stack = X.env :: X.outer) (hf : X.env.frame = some X.env.locals) (hN : X.N.Nodup) (hi : X.N[i]? = some n) (hln : X.env.kindOf n = some .local) (hc : NamesAll X es cs) (hcl : cs.length ≤ 1000)
    (hb : ∀ (W : WX) (pn : List (Addr × Obj)) (xe : Value → Shared → Prop), Takes (X.tr pn xe) W → PassesOwn (model X.prog X.w) X.A X.env xe → PSs (X.tr pn xe) body (tb W))
    (hsu : ∀ (a : Addr) (oe : Obj) (pn : List (Addr × Obj)), PSs (X.suite a ((a, oe) :: pn)) (b₀ :: suite) (ts a)) :
    PS X (.Try body [.ExceptHandler (some (.Tuple es kk tpos)) (some n) (b₀ :: suite) pos'] [] [] pos) (fun D σ H => tb (wKept X.K cs i ts D) D σ H) := by
  refine ⟨fun pins s σ H D I h => ?_⟩
  have ok := I.ok
  have hfr : X.A.frames = some (X.env :: X.outer) := by rw [ok.frames, hs]
  refine wpAny_Try_except (wpAny_mono ((hb (wKept X.K cs i ts D) (X.pn ++ pins) (fun e s₁ => wpAny (model X.prog X.w) X.A (noteFrame e X.env) (fun _ s₂ => wpAny (model X.prog X.w) X.A (setFlight e none) (fun _ s₃ =>
    wpAny (model X.prog X.w) X.A (handleBy e X.env [.ExceptHandler (some (.Tuple es kk tpos)) (some n) (b₀ :: suite) pos']) (SP X pins D) X.xe s₃) X.xe s₂) X.xe s₁) (fun u s' xx => ?_) PassesOwn.looking).run [] s σ H D (I.toTry _) h) (fun f s1 hsp => ?_) (fun e s1 he => he))
  · obtain ⟨a, B, sI, pins', σ', H', cls, d, rfl, J', nb, up, sky, na, os, ag, ⟨bs, hbl, hba, hbx⟩, hyes⟩ := xx
    have J : Inv X pins σ' H' sI := J'.ofTry ok
    rw [hs] at sky
    show wpAny (model X.prog X.w) X.A (noteFrame (.ref a) X.env) _ _ _
    refine Sky.land Zc.steady hfr hf sky fun h3 fl3 up3 => ?_
    obtain ⟨oe3, vs3, he3, hz3, hd3⟩ := fl3.there
    have nfr : a ∉ frs (X.env :: X.outer) := fun hm => by
      obtain ⟨_, o', e', hnf⟩ := fl3.2.2.1.mem hm
      rw [he3] at e'; cases e'
      exact hnf _ hd3
    have nL : a ≠ X.env.locals := fun z => nfr (List.mem_filterMap.mpr ⟨X.env, List.mem_cons_self, by rw [hf, z]⟩)
    have nF : a ∉ X.fs := fun hm => by
      obtain ⟨e, he, q⟩ := List.mem_filterMap.mp hm
      exact nfr (List.mem_filterMap.mpr ⟨e, List.mem_cons_of_mem _ he, q⟩)
    have nI : sI.heap.get? a = none := by
      cases z : sI.heap.get? a with
      | none => rfl
      | some o =>
        have y := nb a o z (by rw [hs]; exact nfr)
        rw [fl3.2.1] at y; cases y
    have J3 : Inv X pins σ' H' { s' with heap := h3 } := J.landed nb fl3.1 (up.trans up3) os ag
    have S3 := J3.suite he3 hd3 na nL nF
    refine wpAny_handleBy_cons (codeAny_handlers_test (wpAny_Tuple_spliced (names_run (X := X.suite a ((a, oe3) :: (X.pn ++ pins))) (cs := cs) S3 (L2.Paired.mapP hc fun _ _ z => z) ⟨by rw [sizeLine_eq]; omega, ?_⟩))) (by intro q; cases q)
    dsimp only
    have kp : ∀ b o, h3.get? b = some o → (h3.push { cls := .type "tuple", data := .seq cs.toArray }).get? b = some o := fun _ _ z => Heap.get?_push_of_some _ z
    have LT : PySem.W.Looks (model X.prog X.w) (h3.push { cls := .type "tuple", data := .seq cs.toArray }) (typeOf (.ref a)) cls := fun A Q E s k q => wpAny_typeOf_ref (k _ _ (kp _ _ he3)) (by rw [hz3.1]; exact q)
    refine (exm_some (J3.kIn.keeps kp) LT (Heap.get?_push_size h3 rfl) rfl rfl bs hbl hba hbx).here ?_
    refine codeAny_handlers_suite_as (HandSPX.lands_againZ (fly_keeps fl3 kp) fun h4 fl4 up4 => ?_)
    have J4 : Inv X pins σ' H' { s' with heap := h4 } := J.landed nb fl4.1 (((up.trans up3).trans (Heap.UpToSlots.of_keeps kp)).trans up4) os ag
    obtain ⟨oe4, vs4, he4, hz4, hd4⟩ := fl4.there
    have S4 := J4.suite he4 hd4 na nL nF
    refine store_ok (X := X.suite a ((a, oe4) :: (X.pn ++ pins))) (v := .ref a) S4 hN hi (.inl hln) rfl (fun s5 S5 => ?_) (.inr hln)
    refine wpAny_mono ((hsu a oe4 (X.pn ++ pins)).run [] s5 _ H' _ S5 (hyes a na)) (fun f s6 hsp => ?_) (fun _ _ z => False.elim z)
    cases f with
    | next =>
      obtain ⟨σ6, H6, S6, q6⟩ := hsp
      refine gone_ok (X := X.suite a ((a, oe4) :: (X.pn ++ pins))) S6 hN hi hln fun s7 S7 => ⟨_, _, adopt (S7.unsuite ok) ?_ ?_ nL ?_ ?_ ?_, q6⟩
      · exact (S7.pin (a, oe4) (List.mem_append_left _ List.mem_cons_self)).2.1
      · cases z : X.s_0.heap.get? a with
        | none => rfl
        | some o =>
          obtain ⟨o', y⟩ := J.base.there a o z (by rw [hex]; exact fun q => nomatch q)
          rw [nI] at y; cases y
      · intro x c ec z
        obtain ⟨v, ob, eo, _⟩ := J.cell x c ec
        rw [z, nI] at eo; cases eo
      · intro p hp z
        have y := (J.pin p hp).1
        rw [z, nI] at y; cases y
      · exact exk_ok (S7.pin (a, oe4) (List.mem_append_left _ List.mem_cons_self)).1 hz4 hd4
    | brk => obtain ⟨σ6, H6, S6, q6⟩ := hsp; exact q6.elim
    | cont => obtain ⟨σ6, H6, S6, q6⟩ := hsp; exact q6.elim
    | ret u => obtain ⟨v6, σ6, H6, S6, r6, q6⟩ := hsp; exact q6.elim
  · cases f with
    | next => obtain ⟨σ', H', J', q⟩ := hsp; exact wpAny_execs_nil ⟨σ', H', J'.ofTry ok, q⟩
    | brk => obtain ⟨σ', H', J', q⟩ := hsp; exact ⟨σ', H', J'.ofTry ok, q⟩
    | cont => obtain ⟨σ', H', J', q⟩ := hsp; exact ⟨σ', H', J'.ofTry ok, q⟩
    | ret u => obtain ⟨v, σ', H', J', r, q⟩ := hsp; exact ⟨v, σ', H', J'.ofTry ok, r, q⟩
end
end Pc
namespace Pc
open PySem PySem.Spec PyProof.Rows L2 RZ
/-- what isinstance asks of the class of a kept error -/
structure KeptC (K : PySem.W.Frag) (C : Addr) : Prop where
  ga : PySem.W.findIn K (.ref C) "__getattribute__" = some (some (.builtin "BaseException.__getattribute__"))
  gg : PySem.W.findIn K (.ref C) "__getattr__" = some none
  exC : PySem.W.subIn K (.ref C) (.type "BaseException") = some true
  hdC : PySem.W.hasDictIn K C = true
  clC : PySem.W.findIn K (.ref C) "__class__" = some (some (.builtin "object.__class__"))
  mrO : PySem.W.mroIn K C (.type "object") = some true
  sp : PySem.W.specialIn K (.builtin "object.__class__") "__get__" = some (some (.builtin "getset_descriptor.__get__"))
  tk : PySem.W.takesIn K (.builtin "object.__class__") = some true
/-- a kept error with its dict -/
def Kept (H : Hp) (a C : Addr) (d : Option Addr) : Prop := H a = some (exk a (.ref C) d) ∧ (d = none ∨ ∃ dd fs, d = some dd ∧ H dd = some (.xd fs))
section
variable {X : Cx} {pins : List (Addr × Obj)} {σ : L2.St} {H : Hp} {s : Shared} {a C : Addr} {d : Option Addr}
theorem kept_inst (I : Inv X pins σ H s) (h : Kept H a C d) : ∃ (oe : Obj) (od : Option Obj), PySem.W.InstAt s.heap a oe C od := by
  obtain ⟨e, hd⟩ := h
  obtain ⟨oe, vs, ho, hz, hv⟩ := exk_at I.hok e
  have nc : PySem.W.notCls oe = true := by unfold PySem.W.notCls; rw [hv] <;> rfl
  rcases hd with rfl | ⟨dd, fs, rfl, ed⟩
  · exact ⟨oe, none, ho, hz.1, nc, by rw [hz.2]; trivial⟩
  · obtain ⟨mA, ⟨od, es, ep, q, _⟩, _⟩ := (show ObjOk X.prog X.w H s.heap dd (.xd fs) from I.hok dd _ ed)
    exact ⟨oe, some od, ho, hz.1, nc, by rw [hz.2]; exact q⟩
theorem kept_kit (T : KeptC X.K C) {oe : Obj} {od : Option Obj} : PySem.W.KitX X.K (.ref a) (.ref C) (fun h => PySem.W.InstAt h a oe C od) :=
  PySem.W.kitx_exc (by obtain ⟨cd, hc, _⟩ := PySem.W.any_some T.hdC; rw [hc]; rfl) T.ga T.gg T.exC T.clC T.sp T.tk T.mrO
/-- isinstance(e, c), e a kept error -/
def rIsk (K : PySem.W.Frag) : List V → Hp → VK → Prop := fun xs H Q => ∃ (a C : Addr) (d : Option Addr) (c : V) (u : Value) (b : Bool), xs = [.ref a, c] ∧ Kept H a C d ∧ KeptC K C ∧ ClsV c u ∧ PySem.W.kitOne K (.ref C) u = some b ∧ Q (.bl b) H
theorem call_isk : CallR X (.builtin "isinstance") (rIsk X.K) := by
  intro pins s σ H xs us Q I r h
  obtain ⟨a, C, d, c, u, b, rfl, hk, T, k, e, q⟩ := h
  obtain ⟨u1, u2, rfl, r1, r2⟩ := vals2 r
  cases (show u1 = Value.ref a from r1)
  have e2 := k.eq r2
  subst e2
  obtain ⟨oe, od, J⟩ := kept_inst I hk
  exact PySem.W.kia_one (kept_kit T) I.kIn J e (fun z => nomatch z) fun tk => ⟨.bl b, H, I.tok tk, rfl, q⟩
/-- isinstance(e, (c, ..)) -/
def rIskT (K : PySem.W.Frag) : List V → Hp → VK → Prop := fun xs H Q => ∃ (a C : Addr) (d : Option Addr) (tp : Addr) (cs : List V) (us : List Value) (b : Bool), xs = [.ref a, .ref tp] ∧ Kept H a C d ∧ KeptC K C ∧ H tp = some (.tup cs) ∧ Paired ClsV cs us ∧ PySem.W.kitAny K (.ref C) us = some b ∧ Q (.bl b) H
theorem call_iskT : CallR X (.builtin "isinstance") (rIskT X.K) := by
  intro pins s σ H xs us Q I r h
  obtain ⟨a, C, d, tp, cs, ws, b, rfl, hk, T, hT, k, e, q⟩ := h
  obtain ⟨u1, u2, rfl, r1, r2⟩ := vals2 r
  cases (show u1 = Value.ref a from r1)
  cases (show u2 = Value.ref tp from r2)
  obtain ⟨oe, od, J⟩ := kept_inst I hk
  obtain ⟨_, its, rv, o, h1, h2, n, h3⟩ := (show ObjOk X.prog X.w H s.heap tp (.tup cs) from I.hok tp _ hT)
  have e3 := ClsV.all k rv
  subst e3
  obtain ⟨oc, od', dt, sl⟩ := o
  simp only at h2 h3
  subst h2 h3
  exact PySem.W.kia_tup (kept_kit T) I.kIn J h1 e (fun z => nomatch z) fun tk => ⟨.bl b, H, I.tok tk, rfl, q⟩
/-- e.f, e a kept error -/
def tKf (K : PySem.W.Frag) (f : Str) (te : TE) : TE := fun σ H Q => te σ H fun x H1 => ∃ (a C dd : Addr) (fs : List (Str × V)) (v : V), x = .ref a ∧ H1 a = some (exk a (.ref C) (some dd)) ∧ KeptC K C ∧ PySem.W.findIn K (.ref C) f = some none ∧ H1 dd = some (.xd fs) ∧ fs.lookup f = some v ∧ Q v H1
theorem pe_kf {e : Expr} {te : TE} {f : Str} {pos : Pos} (he : PE X e te) (hb : attributeBase e f X.env (eval e X.env) = eval e X.env := by rfl) : PE X (.Attribute e f pos) (tKf X.K f te) := by
  refine ⟨fun pins s σ H Q I h => attr_of hb (thn (he.run pins s σ H _ I h) fun u s1 hh => ?_)⟩
  obtain ⟨x, H1, I1, rx, a, C, dd, fs, v, ex, ea, T, hno, ed, l, q⟩ := hh
  subst ex
  obtain rfl : u = Value.ref a := rx
  obtain ⟨oe, vs, ho, hz, hv⟩ := exk_at I1.hok ea
  obtain ⟨mA, hns, hr⟩ := (show ObjOk X.prog X.w H1 s1.heap dd (.xd fs) from I1.hok dd _ ed)
  obtain ⟨od, hod, hl⟩ := lookIn_ns hns
  obtain ⟨w', hw, rw'⟩ := RelO.some_of (v := v) (o := mA f) (by rw [← l]; exact hr f)
  have J : PySem.W.InstAt s1.heap a oe C (some od) := ⟨ho, hz.1, by unfold PySem.W.notCls; rw [hv] <;> rfl, by rw [hz.2]; exact hod⟩
  exact HandSPX.exc_get I1.kIn J T.ga T.gg T.exC (PySem.W.findObj_own T.hdC hno rfl (by rw [hl, hw])) (handed_of rw') ⟨v, H1, I1.tok _, rw', q⟩
end
end Pc
namespace Pc
open PySem PySem.Spec PyProof.Rows L2 RZ
/-! ### errors with one field: made, flying -/
/-- an error of the class at C with the field f flies, from the heap H on -/
def Flies (C : Addr) (f : Str) (v : V) (H : Hp) (E : XK) : Prop := ∀ d H', Same H H' → H d = none → H' d = some (.xd [(f, v)]) → E (.ref C) (some d) H'
theorem Flies.same {C : Addr} {f : Str} {v : V} {H H1 : Hp} {E : XK} (h : Flies C f v H E) (s : Same H H1) : Flies C f v H1 E := fun d H' s' n e => h d H' (s.trans s') (s.free n) e
def spInit1 (C : Addr) (f : Str) : Sp := fun vs H Q _ => ∃ (a : Addr) (v : V), vs = [.ref a, v] ∧ H a = some (exo a C none) ∧ ∀ dx, H dx = none → dx ≠ a → Q .non (upd (upd H a (exo a C (some dx))) dx (exd dx [(f, v)]))
theorem raised1 {C : Addr} {f : Str} {v : V} {H1 : Hp} {Q : XK} (h : Flies C f v H1 Q) : [v].length ≤ 1000 ∧ ∀ a, H1 a = none → spInit1 C f (.ref a :: [v]) (upd H1 a (exo a C none))
    (fun v' H2 => v' = .non ∧ ((H2 a = some (exo a C none) ∧ Q (.ref C) none (del H2 a)) ∨ ∃ (d : Addr) (fs : List (Str × V)), H2 a = some (exo a C (some d)) ∧ H2 d = some (exd d fs) ∧ Q (.ref C) (some d) (upd (del H2 a) d (.xd fs)))) (fun _ _ _ => False) := by
  refine ⟨(by show 1 ≤ 1000; decide), fun a na => ⟨a, v, rfl, upd_same, fun dx nd ne => ⟨rfl, .inr ⟨dx, [(f, v)], ?_, upd_same, h dx _ ?_ ?_ upd_same⟩⟩⟩⟩
  · rw [upd_ne (Ne.symm ne), upd_same]
  · intro b o hb
    have nd' : H1 dx = none := by rw [upd_ne ne] at nd; exact nd
    have hbd := ne_of_none hb nd'
    have hba := ne_of_none hb na
    rw [upd_ne hbd, del_ne hba, upd_ne hbd, upd_ne hba, upd_ne hba]
    exact hb
  · rw [upd_ne ne] at nd; exact nd
/-- the try's wish of such an error -/
theorem kept1 {K : PySem.W.Frag} {C : Addr} {f : Str} {v : V} {cs : List Value} {i : Nat} {ts : Addr → TS} {D : Ends} {σ : L2.St} {H : Hp} (hh : Hits K (.ref C) cs)
    (h : ∀ d H' a, Same H H' → H d = none → H' d = some (.xd [(f, v)]) → H' a = none → a ≠ d → ts a { nx := fun σ' H'' => D.nx (σ'.set i none) (upd H'' a (exk a (.ref C) (some d))), rt := fun _ _ => False } (σ.set i (some (.ref a))) H') :
    Flies C f v H (fun cls d H' => wKept K cs i ts D cls d σ H') := fun d H' s n e => ⟨hh, fun a na => h d H' a s n e na (fun z => by rw [z, e] at na; cases na)⟩
theorem Kept.mk1 {H' : Hp} {a d C : Addr} {fs : List (Str × V)} (e : H' d = some (.xd fs)) (n : H' a = none) : Kept (upd H' a (exk a (.ref C) (some d))) a C (some d) :=
  ⟨upd_same, .inr ⟨d, fs, rfl, by rw [upd_ne (ne_of_none e n)]; exact e⟩⟩
theorem Kept.same {H H' : Hp} {a C : Addr} {d : Option Addr} (h : Kept H a C d) (s : Same H H') : Kept H' a C d :=
  ⟨s _ _ h.1, h.2.imp id fun ⟨dd, fs, e, z⟩ => ⟨dd, fs, e, s _ _ z⟩⟩
theorem over_of {K : PySem.W.Frag} {C : Addr} {bmB : List Value} {newId : String} {nm q : Str} {N : Addr} {bs : List Value} {sn : List Str} {sub : List Value} {ab : Bool} {col : Option Bool} {dd : Option Addr} {k0 k1 k2 k3 k5 : Option Value}
    (h : K.lookup C = some (excClassObj nm q C N bs bmB true sn sub ab col dd k0 k1 k2 k3 k5 newId)) (ht : PySem.W.excTail bmB bmB = true) : PySem.W.excOver K C bmB = true := by
  have e : PySem.W.clsIn K C = some { name := nm, bases := bs, mro := .ref C :: bmB, ns := N, qualname := q, hasDict := true, slotNames := sn, subclasses := sub, abstract := ab, collection := col, hasDel := false } := by
    unfold PySem.W.clsIn
    rw [h] <;> rfl
  unfold PySem.W.excOver
  rw [e]
  show ((C == C) && PySem.W.excTail bmB bmB) = true
  rw [ht, beq_self_eq_true]; rfl
theorem kcls_of {K : PySem.W.Frag} {t : Value} {D : Addr} {b : Bool} (h2 : PySem.W.isClsIn K D = true) (h3 : PySem.W.typeIn K (.ref D) = some (.type "type")) (h4 : PySem.W.subIn K t (.ref D) = some b) : PySem.W.kitCls K t (.ref D) = some b := by
  have e2 : ((PySem.W.clsIn K D).isSome && PySem.W.typeIn K (.ref D) == some (.type "type")) = true := by
    have h2' : (PySem.W.clsIn K D).isSome = true := h2
    rw [h2', h3] <;> rfl
  show (if ((PySem.W.clsIn K D).isSome && PySem.W.typeIn K (.ref D) == some (.type "type")) = true then PySem.W.subIn K t (.ref D) else none) = some b
  rw [if_pos e2]
  exact h4
theorem exm_of' {K : PySem.W.Frag} {t : Value} {D : Addr} {b : Bool} (h1 : PySem.W.subIn K (.ref D) (.type "BaseException") = some true) (h2 : PySem.W.isClsIn K D = true) (h3 : PySem.W.typeIn K (.ref D) = some (.type "type")) (h4 : PySem.W.subIn K t (.ref D) = some b) : PySem.W.exmOne K t (.ref D) = some b := by
  have e1 : (PySem.W.subIn K (.ref D) (.type "BaseException") == some true) = true := by rw [h1] <;> rfl
  show (if (PySem.W.subIn K (.ref D) (.type "BaseException") == some true) = true then PySem.W.kitCls K t (.ref D) else none) = some b
  rw [if_pos e1]
  exact kcls_of h2 h3 h4
theorem kit_own {K : PySem.W.Frag} {C D : Addr} {b : Bool} (h0 : PySem.W.subIn K (.ref C) (.ref C) = some true) (h2 : PySem.W.isClsIn K D = true) (h3 : PySem.W.typeIn K (.ref D) = some (.type "type")) (h4 : PySem.W.subIn K (.ref C) (.ref D) = some b) : PySem.W.kitOne K (.ref C) (.ref D) = some b := by
  by_cases e : C = D
  · subst e
    rw [h0] at h4
    rw [← h4]
    show (if ((Value.ref C) == (Value.ref C)) = true then some true else _) = some true
    rw [if_pos (beq_self_eq_true _)]
  · have n : ((Value.ref C) == (Value.ref D)) = false := beq_false_of_ne (fun z => e (Value.ref.inj z))
    show (if ((Value.ref C) == (Value.ref D)) = true then some true else PySem.W.kitCls K (.ref C) (.ref D)) = some b
    rw [if_neg (by rw [n]; exact Bool.false_ne_true)]
    exact kcls_of h2 h3 h4
theorem kit_blt {K : PySem.W.Frag} {C : Addr} {T : String} {b : Bool} (hm : PySem.W.kitMeta T = true) (h4 : PySem.W.subIn K (.ref C) (.type T) = some b) : PySem.W.kitOne K (.ref C) (.type T) = some b := by
  have n : ((Value.ref C) == (Value.type T)) = false := beq_false_of_ne (fun z => nomatch z)
  show (if ((Value.ref C) == (Value.type T)) = true then some true else (if PySem.W.kitMeta T = true then PySem.W.subIn K (.ref C) (.type T) else none)) = some b
  rw [if_neg (by rw [n]; exact Bool.false_ne_true), if_pos hm]
  exact h4
theorem kit_all {K : PySem.W.Frag} {t : Value} : ∀ {us : List Value}, (∀ u ∈ us, PySem.W.kitOne K t u = some false) → PySem.W.kitAny K t us = some false
  | [], _ => rfl
  | u :: us, h => by
    show (match PySem.W.kitOne K t u with | some true => some true | some false => PySem.W.kitAny K t us | none => none) = some false
    rw [h u List.mem_cons_self]
    exact kit_all fun x hx => h x (List.mem_cons_of_mem _ hx)
end Pc
namespace Pc
open PySem PySem.Spec PyProof.Rows L2 RZ
theorem kit_nil {K : PySem.W.Frag} {t : Value} : PySem.W.kitAny K t [] = some false := rfl
theorem kit_cons {K : PySem.W.Frag} {t u : Value} {us : List Value} (h : PySem.W.kitOne K t u = some false) (r : PySem.W.kitAny K t us = some false) : PySem.W.kitAny K t (u :: us) = some false := by
  show (match PySem.W.kitOne K t u with | some true => some true | some false => PySem.W.kitAny K t us | none => none) = some false
  rw [h]
  exact r
theorem hits_of {K : PySem.W.Frag} {cls : Value} {cs : List Value} (bs : List Bool) (hb : bs.any id = true) (h : Paired (fun c b => PySem.W.exmOne K cls c = some b) cs bs) : Hits K cls cs :=
  ⟨bs, h.length.symm, hb, fun i c y hc hy => by
    obtain ⟨y', e, z⟩ := paired_get h hc
    rw [hy] at e; cases e
    exact z⟩
end Pc
namespace Pc
open PySem PySem.Spec PyProof.Rows L2 RZ
/-- two promises of one def -/
theorem FnOk.or {P : Program} {w : World} {K : PySem.W.Frag} {mg : Str → Option Value} {base : Heap} {CX : CXT} {k : Nat} {f : Addr} {fd : FuncData} {ps : List Str} {sp sp' : Sp} (F : FnOk P w K mg base CX k f fd ps sp) (G : FnOk P w K mg base CX k f fd ps sp') :
    FnOk P w K mg base CX k f fd ps (fun vs H Q E => sp vs H Q E ∨ sp' vs H Q E) where
  len vs H Q E h := h.elim (F.len vs H Q E) (G.len vs H Q E)
  run A outer s H args us vs Q E hr e0 hb r h := h.elim (F.run A outer s H args us vs Q E hr e0 hb r) (G.run A outer s H args us vs Q E hr e0 hb r)
end Pc
namespace Pc
open PySem PySem.Spec PyProof.Rows L2 RZ
def topS (i : Nat) : Stmt := PySem.Challenge.pw_partnercall_k64_whole_repetitions_togeth.main.body.getD i (.Pass ⟨0, 0, 0, 0⟩)
abbrev s_p_check_person : Stmt := topS 4
abbrev N_p_check_person : List Str := ["size", "person"]
theorem sc_p_check_person : FnScope ["size", "person"] ["size", "person"] (defScope s_p_check_person) := ⟨rfl, rfl, rfl, by decide +kernel, rfl, by decide +kernel, by decide +kernel⟩
abbrev s_p_check_call : Stmt := topS 5
abbrev N_p_check_call : List Str := ["size", "call", "person"]
theorem sc_p_check_call : FnScope ["size", "call", "person"] ["size", "call"] (defScope s_p_check_call) := ⟨rfl, rfl, rfl, by decide +kernel, rfl, by decide +kernel, by decide +kernel⟩
abbrev s_p_check_word : Stmt := topS 6
abbrev N_p_check_word : List Str := ["size", "word", "call"]
theorem sc_p_check_word : FnScope ["size", "word", "call"] ["size", "word"] (defScope s_p_check_word) := ⟨rfl, rfl, rfl, by decide +kernel, rfl, by decide +kernel, by decide +kernel⟩
abbrev s_p_join_two : Stmt := topS 7
abbrev N_p_join_two : List Str := ["joined", "a", "b", "left", "right"]
theorem sc_p_join_two : FnScope ["joined", "a", "b", "left", "right"] ["joined", "a", "b"] (defScope s_p_join_two) := ⟨rfl, rfl, rfl, by decide +kernel, rfl, by decide +kernel, by decide +kernel⟩
abbrev s_p_people_of : Stmt := topS 9
abbrev N_p_people_of : List Str := ["sheet"]
theorem sc_p_people_of : FnScope ["sheet"] ["sheet"] (defScope s_p_people_of) := ⟨rfl, rfl, rfl, by decide +kernel, rfl, by decide +kernel, by decide +kernel⟩
abbrev s_p_check_sizes : Stmt := topS 10
abbrev N_p_check_sizes : List Str := ["first", "second"]
theorem sc_p_check_sizes : FnScope ["first", "second"] ["first", "second"] (defScope s_p_check_sizes) := ⟨rfl, rfl, rfl, by decide +kernel, rfl, by decide +kernel, by decide +kernel⟩
abbrev s_p_empty_sheet : Stmt := topS 11
abbrev N_p_empty_sheet : List Str := ["size"]
theorem sc_p_empty_sheet : FnScope ["size"] ["size"] (defScope s_p_empty_sheet) := ⟨rfl, rfl, rfl, by decide +kernel, rfl, by decide +kernel, by decide +kernel⟩
abbrev s_p_with_word : Stmt := topS 12
abbrev N_p_with_word : List Str := ["sheet", "word", "size", "ends", "a", "b"]
theorem sc_p_with_word : FnScope ["sheet", "word", "size", "ends", "a", "b"] ["sheet", "word"] (defScope s_p_with_word) := ⟨rfl, rfl, rfl, by decide +kernel, rfl, by decide +kernel, by decide +kernel⟩
abbrev s_p_sheet_of : Stmt := topS 13
abbrev N_p_sheet_of : List Str := ["size", "word"]
theorem sc_p_sheet_of : FnScope ["size", "word"] ["size", "word"] (defScope s_p_sheet_of) := ⟨rfl, rfl, rfl, by decide +kernel, rfl, by decide +kernel, by decide +kernel⟩
abbrev s_p_far_end : Stmt := topS 14
abbrev N_p_far_end : List Str := ["one", "other", "start", "size", "inside_one", "end"]
theorem sc_p_far_end : FnScope ["one", "other", "start", "size", "inside_one", "end"] ["one", "other", "start"] (defScope s_p_far_end) := ⟨rfl, rfl, rfl, by decide +kernel, rfl, by decide +kernel, by decide +kernel⟩
abbrev s_p_followed : Stmt := topS 15
abbrev N_p_followed : List Str := ["one", "other", "start"]
theorem sc_p_followed : FnScope ["one", "other", "start"] ["one", "other"] (defScope s_p_followed) := ⟨rfl, rfl, rfl, by decide +kernel, rfl, by decide +kernel, by decide +kernel⟩
abbrev s_p_times : Stmt := topS 16
abbrev N_p_times : List Str := ["sheet", "many", "done", "power", "left"]
theorem sc_p_times : FnScope ["sheet", "many", "done", "power", "left"] ["sheet", "many"] (defScope s_p_times) := ⟨rfl, rfl, rfl, by decide +kernel, rfl, by decide +kernel, by decide +kernel⟩
abbrev s_p_followed_path : Stmt := topS 18
abbrev N_p_followed_path : List Str := ["sheet", "pairing", "person", "size", "ends", "partner"]
theorem sc_p_followed_path : FnScope ["sheet", "pairing", "person", "size", "ends", "partner"] ["sheet", "pairing", "person"] (defScope s_p_followed_path) := ⟨rfl, rfl, rfl, by decide +kernel, rfl, by decide +kernel, by decide +kernel⟩
abbrev s_p_result : Stmt := topS 19
abbrev N_p_result : List Str := ["sheet", "pairing", "size", "person"]
theorem sc_p_result : FnScope ["sheet", "pairing", "size", "person"] ["sheet", "pairing"] (defScope s_p_result) := ⟨rfl, rfl, rfl, by decide +kernel, rfl, by decide +kernel, by decide +kernel⟩
abbrev s_p_repeated : Stmt := topS 21
abbrev N_p_repeated : List Str := ["pairing", "word", "many"]
theorem sc_p_repeated : FnScope ["pairing", "word", "many"] ["pairing", "word", "many"] (defScope s_p_repeated) := ⟨rfl, rfl, rfl, by decide +kernel, rfl, by decide +kernel, by decide +kernel⟩
abbrev s_p_common_multiple : Stmt := topS 22
abbrev N_p_common_multiple : List Str := ["one", "other", "divisor", "rest"]
theorem sc_p_common_multiple : FnScope ["one", "other", "divisor", "rest"] ["one", "other"] (defScope s_p_common_multiple) := ⟨rfl, rfl, rfl, by decide +kernel, rfl, by decide +kernel, by decide +kernel⟩
abbrev s_p_moves_of_strands : Stmt := topS 23
abbrev N_p_moves_of_strands : List Str := ["sheet", "size", "late", "later", "x"]
theorem sc_p_moves_of_strands : FnScope ["sheet", "size", "late", "later", "x"] ["sheet"] (defScope s_p_moves_of_strands) := ⟨rfl, rfl, rfl, by decide +kernel, rfl, by decide +kernel, by decide +kernel⟩
abbrev s_p_period_of_sheet : Stmt := topS 24
abbrev N_p_period_of_sheet : List Str := ["sheet", "moves", "period", "start", "length", "end"]
theorem sc_p_period_of_sheet : FnScope ["sheet", "moves", "period", "start", "length", "end"] ["sheet"] (defScope s_p_period_of_sheet) := ⟨rfl, rfl, rfl, by decide +kernel, rfl, by decide +kernel, by decide +kernel⟩
abbrev s_p_settles : Stmt := topS 25
abbrev N_p_settles : List Str := ["pairing", "word", "sheet", "period", "around", "present", "begin", "divisor"]
theorem sc_p_settles : FnScope ["pairing", "word", "sheet", "period", "around", "present", "begin", "divisor"] ["pairing", "word"] (defScope s_p_settles) := ⟨rfl, rfl, rfl, by decide +kernel, rfl, by decide +kernel, by decide +kernel⟩
abbrev s_p_first_time : Stmt := topS 26
abbrev N_p_first_time : List Str := ["pairing", "word", "person", "partner", "size", "sheet", "present", "many"]
theorem sc_p_first_time : FnScope ["pairing", "word", "person", "partner", "size", "sheet", "present", "many"] ["pairing", "word", "person", "partner"] (defScope s_p_first_time) := ⟨rfl, rfl, rfl, by decide +kernel, rfl, by decide +kernel, by decide +kernel⟩
abbrev s_p_moved : Stmt := topS 28
abbrev N_p_moved : List Str := ["joins", "places", "found", "at", "other"]
theorem sc_p_moved : FnScope ["joins", "places", "found", "at", "other"] ["joins", "places"] (defScope s_p_moved) := ⟨rfl, rfl, rfl, by decide +kernel, rfl, by decide +kernel, by decide +kernel⟩
abbrev s_p_renumbered : Stmt := topS 29
abbrev N_p_renumbered : List Str := ["pairing", "numbers"]
theorem sc_p_renumbered : FnScope ["pairing", "numbers"] ["pairing", "numbers"] (defScope s_p_renumbered) := ⟨rfl, rfl, rfl, by decide +kernel, rfl, by decide +kernel, by decide +kernel⟩
abbrev s_p_word_renumbered : Stmt := topS 30
abbrev N_p_word_renumbered : List Str := ["word", "numbers", "a", "b"]
theorem sc_p_word_renumbered : FnScope ["word", "numbers", "a", "b"] ["word", "numbers"] (defScope s_p_word_renumbered) := ⟨rfl, rfl, rfl, by decide +kernel, rfl, by decide +kernel, by decide +kernel⟩
abbrev s_p_joined : Stmt := topS 31
abbrev N_p_joined : List Str := ["one", "other", "partner"]
theorem sc_p_joined : FnScope ["one", "other", "partner"] ["one", "other"] (defScope s_p_joined) := ⟨rfl, rfl, rfl, by decide +kernel, rfl, by decide +kernel, by decide +kernel⟩
abbrev s_box : Stmt := topS 33
abbrev N_box : List Str := ["_law_script", "_law_k", "_law_cell"]
theorem sc_box : FnScope ["_law_script", "_law_k", "_law_cell"] ["_law_script", "_law_k"] (defScope s_box) := ⟨rfl, rfl, rfl, by decide +kernel, rfl, by decide +kernel, by decide +kernel⟩
abbrev s_take : Stmt := topS 34
abbrev N_take : List Str := ["_law_box_here", "_law_below", "_law_found", "_law_once"]
theorem sc_take : FnScope ["_law_box_here", "_law_below", "_law_found", "_law_once"] ["_law_box_here", "_law_below"] (defScope s_take) := ⟨rfl, rfl, rfl, by decide +kernel, rfl, by decide +kernel, by decide +kernel⟩
abbrev s_pick : Stmt := topS 35
abbrev N_pick : List Str := ["_law_box_here", "_law_some"]
theorem sc_pick : FnScope ["_law_box_here", "_law_some"] ["_law_box_here", "_law_some"] (defScope s_pick) := ⟨rfl, rfl, rfl, by decide +kernel, rfl, by decide +kernel, by decide +kernel⟩
abbrev s_strewn : Stmt := topS 36
abbrev N_strewn : List Str := ["_law_box_here", "_law_some", "_law_left", "_law_found", "_law_turn"]
theorem sc_strewn : FnScope ["_law_box_here", "_law_some", "_law_left", "_law_found", "_law_turn"] ["_law_box_here", "_law_some"] (defScope s_strewn) := ⟨rfl, rfl, rfl, by decide +kernel, rfl, by decide +kernel, by decide +kernel⟩
abbrev s_drawn_tie : Stmt := topS 37
abbrev N_drawn_tie : List Str := ["_law_box_here", "_law_size", "_law_row", "_law_found", "_law_at"]
theorem sc_drawn_tie : FnScope ["_law_box_here", "_law_size", "_law_row", "_law_found", "_law_at"] ["_law_box_here", "_law_size"] (defScope s_drawn_tie) := ⟨rfl, rfl, rfl, by decide +kernel, rfl, by decide +kernel, by decide +kernel⟩
abbrev s_calls : Stmt := topS 38
abbrev N_calls : List Str := ["_law_size", "_law_found", "_law_low", "_law_high"]
theorem sc_calls : FnScope ["_law_size", "_law_found", "_law_low", "_law_high"] ["_law_size"] (defScope s_calls) := ⟨rfl, rfl, rfl, by decide +kernel, rfl, by decide +kernel, by decide +kernel⟩
abbrev s_tour_of : Stmt := topS 39
abbrev N_tour_of : List Str := ["_law_box_here", "_law_size", "_law_most", "_law_turn"]
theorem sc_tour_of : FnScope ["_law_box_here", "_law_size", "_law_most", "_law_turn"] ["_law_box_here", "_law_size", "_law_most"] (defScope s_tour_of) := ⟨rfl, rfl, rfl, by decide +kernel, rfl, by decide +kernel, by decide +kernel⟩
abbrev s_multiple : Stmt := topS 40
abbrev N_multiple : List Str := ["_law_one_of_two", "_law_two_of_two", "_law_low", "_law_high"]
theorem sc_multiple : FnScope ["_law_one_of_two", "_law_two_of_two", "_law_low", "_law_high"] ["_law_one_of_two", "_law_two_of_two"] (defScope s_multiple) := ⟨rfl, rfl, rfl, by decide +kernel, rfl, by decide +kernel, by decide +kernel⟩
abbrev s_first_right : Stmt := topS 41
abbrev N_first_right : List Str := ["_law_box_here", "_law_tie", "_law_tour", "_law_low", "_law_high", "_law_often", "_law_begin", "_law_period", "_law_some", "_law_at"]
theorem sc_first_right : FnScope ["_law_box_here", "_law_tie", "_law_tour", "_law_low", "_law_high", "_law_often", "_law_begin", "_law_period", "_law_some", "_law_at"] ["_law_box_here", "_law_tie", "_law_tour"] (defScope s_first_right) := ⟨rfl, rfl, rfl, by decide +kernel, rfl, by decide +kernel, by decide +kernel⟩
abbrev s_right : Stmt := topS 42
abbrev N_right : List Str := ["_law_box_here", "_law_size", "_law_its_size", "_law_tie", "_law_mate", "_law_tour", "_law_its_tour", "_law_few", "_law_more", "_law_told", "_law_both", "_law_tours", "_law_begin", "_law_period", "_law_its_begin", "_law_its_period", "_law_tags", "_law_fresh", "_law_its_word", "_law_low", "_law_high"]
theorem sc_right : FnScope ["_law_box_here", "_law_size", "_law_its_size", "_law_tie", "_law_mate", "_law_tour", "_law_its_tour", "_law_few", "_law_more", "_law_told", "_law_both", "_law_tours", "_law_begin", "_law_period", "_law_its_begin", "_law_its_period", "_law_tags", "_law_fresh", "_law_its_word", "_law_low", "_law_high"] ["_law_box_here"] (defScope s_right) := ⟨rfl, rfl, rfl, by decide +kernel, rfl, by decide +kernel, by decide +kernel⟩
abbrev s_law : Stmt := topS 43
abbrev N_law : List Str := ["_law_script", "_law_k"]
theorem sc_law : FnScope ["_law_script", "_law_k"] ["_law_script"] (defScope s_law) := ⟨rfl, rfl, rfl, by decide +kernel, rfl, by decide +kernel, by decide +kernel⟩
set_option genInjectivity false in
set_option genSizeOf false in
structure Env (K : PySem.W.Frag) (mg : Str → Option Value) where
  n_len : mg "len" = none
  n_tuple : mg "tuple" = none
  n_list : mg "list" = none
  n_range : mg "range" = none
  n_enumerate : mg "enumerate" = none
  n_min : mg "min" = none
  n_max : mg "max" = none
  n_abs : mg "abs" = none
  n_int : mg "int" = none
  n_all : mg "all" = none
  f_p_check_person : Addr
  d_p_check_person : FuncData
  F_p_check_person : Fun K "check_person" "check_person" s_p_check_person f_p_check_person d_p_check_person
  g_p_check_person : mg "check_person" = some (.ref f_p_check_person)
  f_p_check_call : Addr
  d_p_check_call : FuncData
  F_p_check_call : Fun K "check_call" "check_call" s_p_check_call f_p_check_call d_p_check_call
  g_p_check_call : mg "check_call" = some (.ref f_p_check_call)
  f_p_check_word : Addr
  d_p_check_word : FuncData
  F_p_check_word : Fun K "check_word" "check_word" s_p_check_word f_p_check_word d_p_check_word
  g_p_check_word : mg "check_word" = some (.ref f_p_check_word)
  f_p_join_two : Addr
  d_p_join_two : FuncData
  F_p_join_two : Fun K "join_two" "join_two" s_p_join_two f_p_join_two d_p_join_two
  g_p_join_two : mg "join_two" = some (.ref f_p_join_two)
  f_p_people_of : Addr
  d_p_people_of : FuncData
  F_p_people_of : Fun K "people_of" "people_of" s_p_people_of f_p_people_of d_p_people_of
  g_p_people_of : mg "people_of" = some (.ref f_p_people_of)
  f_p_check_sizes : Addr
  d_p_check_sizes : FuncData
  F_p_check_sizes : Fun K "check_sizes" "check_sizes" s_p_check_sizes f_p_check_sizes d_p_check_sizes
  g_p_check_sizes : mg "check_sizes" = some (.ref f_p_check_sizes)
  f_p_empty_sheet : Addr
  d_p_empty_sheet : FuncData
  F_p_empty_sheet : Fun K "empty_sheet" "empty_sheet" s_p_empty_sheet f_p_empty_sheet d_p_empty_sheet
  g_p_empty_sheet : mg "empty_sheet" = some (.ref f_p_empty_sheet)
  f_p_with_word : Addr
  d_p_with_word : FuncData
  F_p_with_word : Fun K "with_word" "with_word" s_p_with_word f_p_with_word d_p_with_word
  g_p_with_word : mg "with_word" = some (.ref f_p_with_word)
  f_p_sheet_of : Addr
  d_p_sheet_of : FuncData
  F_p_sheet_of : Fun K "sheet_of" "sheet_of" s_p_sheet_of f_p_sheet_of d_p_sheet_of
  g_p_sheet_of : mg "sheet_of" = some (.ref f_p_sheet_of)
  f_p_far_end : Addr
  d_p_far_end : FuncData
  F_p_far_end : Fun K "far_end" "far_end" s_p_far_end f_p_far_end d_p_far_end
  g_p_far_end : mg "far_end" = some (.ref f_p_far_end)
  f_p_followed : Addr
  d_p_followed : FuncData
  F_p_followed : Fun K "followed" "followed" s_p_followed f_p_followed d_p_followed
  g_p_followed : mg "followed" = some (.ref f_p_followed)
  f_p_times : Addr
  d_p_times : FuncData
  F_p_times : Fun K "times" "times" s_p_times f_p_times d_p_times
  g_p_times : mg "times" = some (.ref f_p_times)
  f_p_followed_path : Addr
  d_p_followed_path : FuncData
  F_p_followed_path : Fun K "followed_path" "followed_path" s_p_followed_path f_p_followed_path d_p_followed_path
  g_p_followed_path : mg "followed_path" = some (.ref f_p_followed_path)
  f_p_result : Addr
  d_p_result : FuncData
  F_p_result : Fun K "result" "result" s_p_result f_p_result d_p_result
  g_p_result : mg "result" = some (.ref f_p_result)
  f_p_repeated : Addr
  d_p_repeated : FuncData
  F_p_repeated : Fun K "repeated" "repeated" s_p_repeated f_p_repeated d_p_repeated
  g_p_repeated : mg "repeated" = some (.ref f_p_repeated)
  f_p_common_multiple : Addr
  d_p_common_multiple : FuncData
  F_p_common_multiple : Fun K "common_multiple" "common_multiple" s_p_common_multiple f_p_common_multiple d_p_common_multiple
  g_p_common_multiple : mg "common_multiple" = some (.ref f_p_common_multiple)
  f_p_moves_of_strands : Addr
  d_p_moves_of_strands : FuncData
  F_p_moves_of_strands : Fun K "moves_of_strands" "moves_of_strands" s_p_moves_of_strands f_p_moves_of_strands d_p_moves_of_strands
  g_p_moves_of_strands : mg "moves_of_strands" = some (.ref f_p_moves_of_strands)
  f_p_period_of_sheet : Addr
  d_p_period_of_sheet : FuncData
  F_p_period_of_sheet : Fun K "period_of_sheet" "period_of_sheet" s_p_period_of_sheet f_p_period_of_sheet d_p_period_of_sheet
  g_p_period_of_sheet : mg "period_of_sheet" = some (.ref f_p_period_of_sheet)
  f_p_settles : Addr
  d_p_settles : FuncData
  F_p_settles : Fun K "settles" "settles" s_p_settles f_p_settles d_p_settles
  g_p_settles : mg "settles" = some (.ref f_p_settles)
  f_p_first_time : Addr
  d_p_first_time : FuncData
  F_p_first_time : Fun K "first_time" "first_time" s_p_first_time f_p_first_time d_p_first_time
  g_p_first_time : mg "first_time" = some (.ref f_p_first_time)
  f_p_moved : Addr
  d_p_moved : FuncData
  F_p_moved : Fun K "moved" "moved" s_p_moved f_p_moved d_p_moved
  g_p_moved : mg "moved" = some (.ref f_p_moved)
  f_p_renumbered : Addr
  d_p_renumbered : FuncData
  F_p_renumbered : Fun K "renumbered" "renumbered" s_p_renumbered f_p_renumbered d_p_renumbered
  g_p_renumbered : mg "renumbered" = some (.ref f_p_renumbered)
  f_p_word_renumbered : Addr
  d_p_word_renumbered : FuncData
  F_p_word_renumbered : Fun K "word_renumbered" "word_renumbered" s_p_word_renumbered f_p_word_renumbered d_p_word_renumbered
  g_p_word_renumbered : mg "word_renumbered" = some (.ref f_p_word_renumbered)
  f_p_joined : Addr
  d_p_joined : FuncData
  F_p_joined : Fun K "joined" "joined" s_p_joined f_p_joined d_p_joined
  g_p_joined : mg "joined" = some (.ref f_p_joined)
  f_box : Addr
  d_box : FuncData
  F_box : Fun K "_law_box" "_law_box" s_box f_box d_box
  g_box : mg "_law_box" = some (.ref f_box)
  f_take : Addr
  d_take : FuncData
  F_take : Fun K "_law_take" "_law_take" s_take f_take d_take
  g_take : mg "_law_take" = some (.ref f_take)
  f_pick : Addr
  d_pick : FuncData
  F_pick : Fun K "_law_pick" "_law_pick" s_pick f_pick d_pick
  g_pick : mg "_law_pick" = some (.ref f_pick)
  f_strewn : Addr
  d_strewn : FuncData
  F_strewn : Fun K "_law_strewn" "_law_strewn" s_strewn f_strewn d_strewn
  g_strewn : mg "_law_strewn" = some (.ref f_strewn)
  f_drawn_tie : Addr
  d_drawn_tie : FuncData
  F_drawn_tie : Fun K "_law_drawn_tie" "_law_drawn_tie" s_drawn_tie f_drawn_tie d_drawn_tie
  g_drawn_tie : mg "_law_drawn_tie" = some (.ref f_drawn_tie)
  f_calls : Addr
  d_calls : FuncData
  F_calls : Fun K "_law_calls" "_law_calls" s_calls f_calls d_calls
  g_calls : mg "_law_calls" = some (.ref f_calls)
  f_tour_of : Addr
  d_tour_of : FuncData
  F_tour_of : Fun K "_law_tour_of" "_law_tour_of" s_tour_of f_tour_of d_tour_of
  g_tour_of : mg "_law_tour_of" = some (.ref f_tour_of)
  f_multiple : Addr
  d_multiple : FuncData
  F_multiple : Fun K "_law_multiple" "_law_multiple" s_multiple f_multiple d_multiple
  g_multiple : mg "_law_multiple" = some (.ref f_multiple)
  f_first_right : Addr
  d_first_right : FuncData
  F_first_right : Fun K "_law_first_right" "_law_first_right" s_first_right f_first_right d_first_right
  g_first_right : mg "_law_first_right" = some (.ref f_first_right)
  f_right : Addr
  d_right : FuncData
  F_right : Fun K "_law_right" "_law_right" s_right f_right d_right
  g_right : mg "_law_right" = some (.ref f_right)
theorem Env.b_p_check_person {K : PySem.W.Frag} {mg : Str → Option Value} (T : Env K mg) : Binds K T.d_p_check_person ["size", "person"] [] := T.F_p_check_person.binds fun _ _ _ _ _ _ us hl => match us, hl with | [_, _], _ => rfl
theorem Env.b_p_check_call {K : PySem.W.Frag} {mg : Str → Option Value} (T : Env K mg) : Binds K T.d_p_check_call ["size", "call"] [] := T.F_p_check_call.binds fun _ _ _ _ _ _ us hl => match us, hl with | [_, _], _ => rfl
theorem Env.b_p_check_word {K : PySem.W.Frag} {mg : Str → Option Value} (T : Env K mg) : Binds K T.d_p_check_word ["size", "word"] [] := T.F_p_check_word.binds fun _ _ _ _ _ _ us hl => match us, hl with | [_, _], _ => rfl
theorem Env.b_p_join_two {K : PySem.W.Frag} {mg : Str → Option Value} (T : Env K mg) : Binds K T.d_p_join_two ["joined", "a", "b"] [] := T.F_p_join_two.binds fun _ _ _ _ _ _ us hl => match us, hl with | [_, _, _], _ => rfl
theorem Env.b_p_people_of {K : PySem.W.Frag} {mg : Str → Option Value} (T : Env K mg) : Binds K T.d_p_people_of ["sheet"] [] := T.F_p_people_of.binds fun _ _ _ _ _ _ us hl => match us, hl with | [_], _ => rfl
theorem Env.b_p_check_sizes {K : PySem.W.Frag} {mg : Str → Option Value} (T : Env K mg) : Binds K T.d_p_check_sizes ["first", "second"] [] := T.F_p_check_sizes.binds fun _ _ _ _ _ _ us hl => match us, hl with | [_, _], _ => rfl
theorem Env.b_p_empty_sheet {K : PySem.W.Frag} {mg : Str → Option Value} (T : Env K mg) : Binds K T.d_p_empty_sheet ["size"] [] := T.F_p_empty_sheet.binds fun _ _ _ _ _ _ us hl => match us, hl with | [_], _ => rfl
theorem Env.b_p_with_word {K : PySem.W.Frag} {mg : Str → Option Value} (T : Env K mg) : Binds K T.d_p_with_word ["sheet", "word"] [] := T.F_p_with_word.binds fun _ _ _ _ _ _ us hl => match us, hl with | [_, _], _ => rfl
theorem Env.b_p_sheet_of {K : PySem.W.Frag} {mg : Str → Option Value} (T : Env K mg) : Binds K T.d_p_sheet_of ["size", "word"] [] := T.F_p_sheet_of.binds fun _ _ _ _ _ _ us hl => match us, hl with | [_, _], _ => rfl
theorem Env.b_p_far_end {K : PySem.W.Frag} {mg : Str → Option Value} (T : Env K mg) : Binds K T.d_p_far_end ["one", "other", "start"] [] := T.F_p_far_end.binds fun _ _ _ _ _ _ us hl => match us, hl with | [_, _, _], _ => rfl
theorem Env.b_p_followed {K : PySem.W.Frag} {mg : Str → Option Value} (T : Env K mg) : Binds K T.d_p_followed ["one", "other"] [] := T.F_p_followed.binds fun _ _ _ _ _ _ us hl => match us, hl with | [_, _], _ => rfl
theorem Env.b_p_times {K : PySem.W.Frag} {mg : Str → Option Value} (T : Env K mg) : Binds K T.d_p_times ["sheet", "many"] [] := T.F_p_times.binds fun _ _ _ _ _ _ us hl => match us, hl with | [_, _], _ => rfl
theorem Env.b_p_followed_path {K : PySem.W.Frag} {mg : Str → Option Value} (T : Env K mg) : Binds K T.d_p_followed_path ["sheet", "pairing", "person"] [] := T.F_p_followed_path.binds fun _ _ _ _ _ _ us hl => match us, hl with | [_, _, _], _ => rfl
theorem Env.b_p_result {K : PySem.W.Frag} {mg : Str → Option Value} (T : Env K mg) : Binds K T.d_p_result ["sheet", "pairing"] [] := T.F_p_result.binds fun _ _ _ _ _ _ us hl => match us, hl with | [_, _], _ => rfl
theorem Env.b_p_repeated {K : PySem.W.Frag} {mg : Str → Option Value} (T : Env K mg) : Binds K T.d_p_repeated ["pairing", "word", "many"] [] := T.F_p_repeated.binds fun _ _ _ _ _ _ us hl => match us, hl with | [_, _, _], _ => rfl
theorem Env.b_p_common_multiple {K : PySem.W.Frag} {mg : Str → Option Value} (T : Env K mg) : Binds K T.d_p_common_multiple ["one", "other"] [] := T.F_p_common_multiple.binds fun _ _ _ _ _ _ us hl => match us, hl with | [_, _], _ => rfl
theorem Env.b_p_moves_of_strands {K : PySem.W.Frag} {mg : Str → Option Value} (T : Env K mg) : Binds K T.d_p_moves_of_strands ["sheet"] [] := T.F_p_moves_of_strands.binds fun _ _ _ _ _ _ us hl => match us, hl with | [_], _ => rfl
theorem Env.b_p_period_of_sheet {K : PySem.W.Frag} {mg : Str → Option Value} (T : Env K mg) : Binds K T.d_p_period_of_sheet ["sheet"] [] := T.F_p_period_of_sheet.binds fun _ _ _ _ _ _ us hl => match us, hl with | [_], _ => rfl
theorem Env.b_p_settles {K : PySem.W.Frag} {mg : Str → Option Value} (T : Env K mg) : Binds K T.d_p_settles ["pairing", "word"] [] := T.F_p_settles.binds fun _ _ _ _ _ _ us hl => match us, hl with | [_, _], _ => rfl
theorem Env.b_p_first_time {K : PySem.W.Frag} {mg : Str → Option Value} (T : Env K mg) : Binds K T.d_p_first_time ["pairing", "word", "person", "partner"] [] := T.F_p_first_time.binds fun _ _ _ _ _ _ us hl => match us, hl with | [_, _, _, _], _ => rfl
theorem Env.b_p_moved {K : PySem.W.Frag} {mg : Str → Option Value} (T : Env K mg) : Binds K T.d_p_moved ["joins", "places"] [] := T.F_p_moved.binds fun _ _ _ _ _ _ us hl => match us, hl with | [_, _], _ => rfl
theorem Env.b_p_renumbered {K : PySem.W.Frag} {mg : Str → Option Value} (T : Env K mg) : Binds K T.d_p_renumbered ["pairing", "numbers"] [] := T.F_p_renumbered.binds fun _ _ _ _ _ _ us hl => match us, hl with | [_, _], _ => rfl
theorem Env.b_p_word_renumbered {K : PySem.W.Frag} {mg : Str → Option Value} (T : Env K mg) : Binds K T.d_p_word_renumbered ["word", "numbers"] [] := T.F_p_word_renumbered.binds fun _ _ _ _ _ _ us hl => match us, hl with | [_, _], _ => rfl
theorem Env.b_p_joined {K : PySem.W.Frag} {mg : Str → Option Value} (T : Env K mg) : Binds K T.d_p_joined ["one", "other"] [] := T.F_p_joined.binds fun _ _ _ _ _ _ us hl => match us, hl with | [_, _], _ => rfl
theorem Env.b_box {K : PySem.W.Frag} {mg : Str → Option Value} (T : Env K mg) : Binds K T.d_box ["_law_script", "_law_k"] [] := T.F_box.binds fun _ _ _ _ _ _ us hl => match us, hl with | [_, _], _ => rfl
theorem Env.b_take {K : PySem.W.Frag} {mg : Str → Option Value} (T : Env K mg) : Binds K T.d_take ["_law_box_here", "_law_below"] [] := T.F_take.binds fun _ _ _ _ _ _ us hl => match us, hl with | [_, _], _ => rfl
theorem Env.b_pick {K : PySem.W.Frag} {mg : Str → Option Value} (T : Env K mg) : Binds K T.d_pick ["_law_box_here", "_law_some"] [] := T.F_pick.binds fun _ _ _ _ _ _ us hl => match us, hl with | [_, _], _ => rfl
theorem Env.b_strewn {K : PySem.W.Frag} {mg : Str → Option Value} (T : Env K mg) : Binds K T.d_strewn ["_law_box_here", "_law_some"] [] := T.F_strewn.binds fun _ _ _ _ _ _ us hl => match us, hl with | [_, _], _ => rfl
theorem Env.b_drawn_tie {K : PySem.W.Frag} {mg : Str → Option Value} (T : Env K mg) : Binds K T.d_drawn_tie ["_law_box_here", "_law_size"] [] := T.F_drawn_tie.binds fun _ _ _ _ _ _ us hl => match us, hl with | [_, _], _ => rfl
theorem Env.b_calls {K : PySem.W.Frag} {mg : Str → Option Value} (T : Env K mg) : Binds K T.d_calls ["_law_size"] [] := T.F_calls.binds fun _ _ _ _ _ _ us hl => match us, hl with | [_], _ => rfl
theorem Env.b_tour_of {K : PySem.W.Frag} {mg : Str → Option Value} (T : Env K mg) : Binds K T.d_tour_of ["_law_box_here", "_law_size", "_law_most"] [] := T.F_tour_of.binds fun _ _ _ _ _ _ us hl => match us, hl with | [_, _, _], _ => rfl
theorem Env.b_multiple {K : PySem.W.Frag} {mg : Str → Option Value} (T : Env K mg) : Binds K T.d_multiple ["_law_one_of_two", "_law_two_of_two"] [] := T.F_multiple.binds fun _ _ _ _ _ _ us hl => match us, hl with | [_, _], _ => rfl
theorem Env.b_first_right {K : PySem.W.Frag} {mg : Str → Option Value} (T : Env K mg) : Binds K T.d_first_right ["_law_box_here", "_law_tie", "_law_tour"] [] := T.F_first_right.binds fun _ _ _ _ _ _ us hl => match us, hl with | [_, _, _], _ => rfl
theorem Env.b_right {K : PySem.W.Frag} {mg : Str → Option Value} (T : Env K mg) : Binds K T.d_right ["_law_box_here"] [] := T.F_right.binds fun _ _ _ _ _ _ us hl => match us, hl with | [_], _ => rfl
end Pc

namespace Pc
open PySem PySem.Spec PyProof.Rows L2 RZ
section
variable {P : Program} {w : World} {K : PySem.W.Frag} {mg : Str → Option Value} {base : Heap}
/-! ### a source -/
def spBox (K : PySem.W.Frag) : Sp := fun vs H Q _ => ∃ (a : Addr) (ns : List Int) (k : Nat), vs = [.ref a, .int k] ∧ SqL K H a (ns.map V.int) ∧ k ≤ 100 ∧
  ∀ H' b, Same H H' → H b = none → Box 1000000000 H' b → Q (.ref b) H'
theorem ok_box (T : Env K mg) : FnOk P w K mg base CX0 1 T.f_box T.d_box ["_law_script", "_law_k"] (spBox K) := by
  refine T.F_box.ok sc_box (fun vs H Q E h => ?_) (fun cdv A outer s H vs Q E hr h => ?_)
  · obtain ⟨a, ns, k, rfl, _⟩ := h
    rfl
  · obtain ⟨a, ns, k, rfl, hS, hk, q⟩ := h
    refine ⟨_, pss_cons (ps_set (i := 2) sc_box.nd rfl (.inl rfl)
        (pe_ifExp (pt_cmpR op_lt (pv 1) (pe_callB call_len_seq (by rfl) T.n_len PySem.boot_len (pa_cons (pv 0) pa_nil)) (nomark _)) (pe_ix ix_list (pv 0) (pv 1) (fun _ _ => rfl)) pe_int))
      (pss_one (ps_ret (pe_lst (pa_cons
          (pe_op op_mul (pe_callB call_abs (by rfl) T.n_abs (by decide +kernel) (pa_cons (pv 2) pa_nil))
            (pe_callTy call_int1 (by rfl) T.n_int (by decide +kernel) (pa_cons (pe_cmpR op_ge (pe_callB call_abs (by rfl) T.n_abs (by decide +kernel) (pa_cons (pv 2) pa_nil)) (pe_op op_pow pe_int pe_int) (nomark _)) pa_nil)))
        (pa_cons (pe_op op_add (pe_op op_add (pe_op op_mod (pv 2) pe_int) (pe_op op_mul pe_int (pv 1))) pe_int)
        (pa_cons pe_int pa_nil)))))), ?_⟩
    refine ⟨.int k, rfl, .ref a, rfl, a, ns.map V.int, rfl, .inl hS, _, _, rfl, rfl, _, rfl, ite2 (fun e => ?_) (fun e => ?_)⟩
    · have e1 : k < ns.length := by
        have := of_decide_eq_true e
        rw [List.length_map] at this
        omega
      refine ⟨.ref a, rfl, .int k, rfl, a, _, _, _, rfl, rfl, hS, atI_nat (v := .int ns[k]) (by rw [List.getElem?_map, List.getElem?_eq_getElem e1]; rfl), ?_⟩
      revert e; generalize ns[k] = c; intro _
      refine ⟨_, rfl, _, rfl, _, rfl, _, rfl, 10, 18, rfl, rfl, ⟨by decide, by decide, by decide⟩, _, _, rfl, rfl, .inr ⟨_, rfl, _, _, rfl, rfl, .inr (in64 (one0 _)), _, rfl, _, _, rfl, rfl, (show (0 : Int) < 2147483629 by decide), _, rfl, _, _, rfl, rfl, .inl ⟨by decide, by decide⟩, _, _, rfl, rfl, _, _, rfl, rfl, ?_⟩⟩
      refine ⟨by show 3 ≤ sizeLine; decide, fun b nb => q _ b (same_new nb) nb ⟨_, _, 0, upd_same, Int.mul_nonneg ?_ (one0 _).1, ?_, ?_, by decide, by decide⟩⟩
      · split <;> omega
      · omega
      · omega
    · refine ⟨_, rfl, _, rfl, _, rfl, _, rfl, 10, 18, rfl, rfl, ⟨by decide, by decide, by decide⟩, _, _, rfl, rfl, .inr ⟨_, rfl, _, _, rfl, rfl, .inr (in64 (one0 _)), _, rfl, _, _, rfl, rfl, (show (0 : Int) < 2147483629 by decide), _, rfl, _, _, rfl, rfl, .inl ⟨by decide, by decide⟩, _, _, rfl, rfl, _, _, rfl, rfl, ?_⟩⟩
      refine ⟨by show 3 ≤ sizeLine; decide, fun b nb => q _ b (same_new nb) nb ⟨_, _, 0, upd_same, Int.mul_nonneg ?_ (one0 _).1, ?_, ?_, by decide, by decide⟩⟩
      · split <;> omega
      · omega
      · omega
end
end Pc
namespace Pc
open PySem PySem.Spec PyProof.Rows L2 RZ
section
variable {P : Program} {w : World} {K : PySem.W.Frag} {mg : Str → Option Value} {base : Heap}
/-! ### a draw below a span of at most ten million -/
def spTake : Sp := fun vs H Q _ => ∃ (b : Addr) (n : Nat) (s : Int), vs = [.ref b, .int s] ∧ Box (n + 1) H b ∧ 0 < s ∧ s ≤ 10000000 ∧
  ∀ (r : Int) (H' : Hp), 0 ≤ r → r < s → Box n H' b → Keep b H H' → Q (.int r) H'
theorem ok_take (T : Env K mg) : FnOk P w K mg base CX0 1 T.f_take T.d_take ["_law_box_here", "_law_below"] spTake := by
  refine T.F_take.ok sc_take (fun vs H Q E h => ?_) (fun cdv A outer s H vs Q E hr h => ?_)
  · obtain ⟨b, n, s, rfl, _⟩ := h
    rfl
  · obtain ⟨b, n, s, rfl, ⟨x, y, z, hb, hx, hy, hy2, hz, hz2⟩, hs, hs2, q⟩ := h
    refine ⟨_, pss_cons (ps_if (pt_cmpR op_gt (pe_ix ix_list (pv 0) pe_int (fun _ _ => rfl)) pe_int (nomark _))
        (pss_cons (ps_set (i := 2) sc_take.nd rfl (.inl rfl) (pe_op op_mod (pe_ix ix_list (pv 0) pe_int (fun _ _ => rfl)) (pv 1)))
        (pss_cons (ps_asg (pe_op op_fdiv (pe_ix ix_list (pv 0) pe_int (fun _ _ => rfl)) (pv 1)) (pg_sub (pv 0) pe_int set_list))
        (pss_one (ps_ret (pv 2))))) pss_nil)
      (pss_cons (ps_if (pt_cmpR op_gt (pv 1) (pe_op op_pow pe_int pe_int) (nomark _)) pss_never pss_nil)
      (pss_cons (ps_asg (pe_op op_add (pe_ix ix_list (pv 0) pe_int (fun _ _ => rfl)) pe_int) (pg_sub (pv 0) pe_int set_list))
      (pss_cons (ps_set (i := 3) sc_take.nd rfl (.inl rfl) (pe_op op_mod (pe_op op_pow (pe_op op_add (pe_ix ix_list (pv 0) pe_int (fun _ _ => rfl)) (pe_op op_mul pe_int (pe_ix ix_list (pv 0) pe_int (fun _ _ => rfl)))) pe_int) pe_int))
      (pss_one (ps_ret (pe_op op_mod (pe_op op_fdiv (pe_op op_mod (pe_op op_add (pe_op op_mul (pv 3) (pe_op op_add (pe_op op_mod (pv 3) pe_int) pe_int)) (pe_op op_mul (pe_ix ix_list (pv 0) pe_int (fun _ _ => rfl)) pe_int)) pe_int) pe_int) (pv 1))))))), ?_⟩
    have hS : SqL K H b [.int x, .int y, .int z] := .inl (.inl hb)
    refine ⟨.ref b, rfl, b, _, 0, .int x, rfl, rfl, hS, atI_nat (j := 0) rfl, x, 0, rfl, rfl, _, rfl, ite2 (fun e => ?_) (fun e => ?_)⟩
    · -- the number itself serves
      refine ⟨.ref b, rfl, b, _, 0, .int x, rfl, rfl, hS, atI_nat (j := 0) rfl, .int s, rfl, x, s, rfl, rfl, hs, ?_⟩
      refine ⟨.ref b, rfl, b, _, 0, .int x, rfl, rfl, hS, atI_nat (j := 0) rfl, .int s, rfl, x, s, rfl, rfl, ⟨hs, by omega⟩, .ref b, rfl, b, _, 0, 0, rfl, rfl, hb, rfl, ?_⟩
      refine ⟨_, rfl, q _ _ (Int.emod_nonneg _ (by omega)) (Int.emod_lt_of_pos _ hs) ⟨_, y, z, upd_same, ?_, hy, hy2, hz, by omega⟩ keep_upd⟩
      exact Int.ediv_nonneg hx (by omega)
    · refine ⟨.int s, rfl, 10, 7, rfl, rfl, ⟨by decide, by decide, by decide⟩, s, _, rfl, rfl, _, rfl, ite2 (fun e2 => ?_) (fun _ => ?_)⟩
      · have e3 := of_decide_eq_true e2
        have e4 : (10 : Int) ^ Int.toNat 7 = 10000000 := by decide
        rw [e4] at e3
        omega
      refine ⟨.ref b, rfl, b, _, 2, .int z, rfl, rfl, hS, atI_nat (j := 2) rfl, z, 1, rfl, rfl, .ref b, rfl, b, _, 2, 2, rfl, rfl, hb, rfl, ?_⟩
      have h2 : upd H b (.lst ([V.int x, V.int y, V.int z].set 2 (.int (z + 1)))) b = some (.lst [.int x, .int y, .int (z + 1)]) := upd_same
      have hS2 : SqL K (upd H b (.lst ([V.int x, V.int y, V.int z].set 2 (.int (z + 1))))) b [.int x, .int y, .int (z + 1)] := .inl (.inl h2)
      refine ⟨.ref b, rfl, b, _, 1, .int y, rfl, rfl, hS2, atI_nat (j := 1) rfl, .ref b, rfl, b, _, 2, .int (z + 1), rfl, rfl, hS2, atI_nat (j := 2) rfl, 48271, z + 1, rfl, rfl, .inl ⟨by decide, by decide⟩, y, _, rfl, rfl, _, 5, rfl, rfl, ⟨by decide, by decide, by omega⟩, _, 2147483647, rfl, rfl, (show (0 : Int) < 2147483647 by decide), ?_⟩
      have o1 : 0 ≤ (y + 48271 * (z + 1)) ^ Int.toNat 5 % 2147483647 := Int.emod_nonneg _ (by decide)
      have o2 : (y + 48271 * (z + 1)) ^ Int.toNat 5 % 2147483647 < 2147483647 := Int.emod_lt_of_pos _ (by decide)
      refine ⟨_, rfl, _, rfl, _, 30011, rfl, rfl, (show (0 : Int) < 30011 by decide), _, 7, rfl, rfl, _, _, rfl, rfl, .inl ⟨Int.lt_of_lt_of_le (by decide) o1, Int.lt_trans o2 (by decide)⟩, .ref b, rfl, b, _, 2, .int (z + 1), rfl, rfl, hS2, atI_nat (j := 2) rfl, z + 1, 7919, rfl, rfl, .inr ⟨by decide, by decide⟩, _, _, rfl, rfl, _, 2147483629, rfl, rfl, (show (0 : Int) < 2147483629 by decide), _, 64, rfl, rfl, ⟨by decide, by decide⟩, .int s, rfl, _, s, rfl, rfl, hs, ?_⟩
      exact q _ _ (Int.emod_nonneg _ (by omega)) (Int.emod_lt_of_pos _ hs) ⟨x, y, z + 1, h2, hx, hy, hy2, by omega, by omega⟩ keep_upd
end
end Pc
namespace Pc
open PySem PySem.Spec PyProof.Rows L2 RZ
section
variable {P : Program} {w : World} {K : PySem.W.Frag} {mg : Str → Option Value} {base : Heap}
/-! ### a wide draw -/
def spTakeW : Sp := fun vs H Q _ => ∃ (b : Addr) (n : Nat) (s : Int), vs = [.ref b, .int s] ∧ Box (n + 2) H b ∧ 0 < s ∧ s ≤ 100000000000000 ∧
  ∀ (r : Int) (H' : Hp), 0 ≤ r → r < s → Box n H' b → Keep b H H' → Q (.int r) H'
theorem ok_takeW (T : Env K mg) : FnOk P w K mg base CX0 2 T.f_take T.d_take ["_law_box_here", "_law_below"] spTakeW := by
  have G : FnOk P w K mg base CX0 1 T.f_take T.d_take ["_law_box_here", "_law_below"] spTake := ok_take T
  refine T.F_take.ok sc_take (fun vs H Q E h => ?_) (fun cdv A outer s H vs Q E hr h => ?_)
  · obtain ⟨b, n, s, rfl, _⟩ := h
    rfl
  · obtain ⟨b, n, s, rfl, ⟨x, y, z, hb, hx, hy, hy2, hz, hz2⟩, hs, hs2, q⟩ := h
    refine ⟨_, pss_cons (ps_if (pt_cmpR op_gt (pe_ix ix_list (pv 0) pe_int (fun _ _ => rfl)) pe_int (nomark _))
        (pss_cons (ps_set (i := 2) sc_take.nd rfl (.inl rfl) (pe_op op_mod (pe_ix ix_list (pv 0) pe_int (fun _ _ => rfl)) (pv 1)))
        (pss_cons (ps_asg (pe_op op_fdivW (pe_ix ix_list (pv 0) pe_int (fun _ _ => rfl)) (pv 1)) (pg_sub (pv 0) pe_int set_list))
        (pss_one (ps_ret (pv 2))))) pss_nil)
      (pss_cons (ps_if (pt_cmpR op_gt (pv 1) (pe_op op_pow pe_int pe_int) (nomark _)) (pss_one (ps_ret (pe_op op_mod (pe_op op_add (pe_call G hr (by rfl) T.g_take T.F_take.kp T.b_take .nil pass0 (pa_cons (pv 0) (pa_cons (pe_op op_pow pe_int pe_int) pa_nil))) (pe_op op_mul (pe_op op_pow pe_int pe_int) (pe_call G hr (by rfl) T.g_take T.F_take.kp T.b_take .nil pass0 (pa_cons (pv 0) (pa_cons (pe_op op_add (pe_op op_fdiv (pe_op op_sub (pv 1) pe_int) (pe_op op_pow pe_int pe_int)) pe_int) pa_nil))))) (pv 1)))) pss_nil)
      (pss_cons (ps_asg (pe_op op_add (pe_ix ix_list (pv 0) pe_int (fun _ _ => rfl)) pe_int) (pg_sub (pv 0) pe_int set_list))
      (pss_cons (ps_set (i := 3) sc_take.nd rfl (.inl rfl) (pe_op op_mod (pe_op op_pow (pe_op op_add (pe_ix ix_list (pv 0) pe_int (fun _ _ => rfl)) (pe_op op_mul pe_int (pe_ix ix_list (pv 0) pe_int (fun _ _ => rfl)))) pe_int) pe_int))
      (pss_one (ps_ret (pe_op op_mod (pe_op op_fdiv (pe_op op_mod (pe_op op_add (pe_op op_mul (pv 3) (pe_op op_add (pe_op op_mod (pv 3) pe_int) pe_int)) (pe_op op_mul (pe_ix ix_list (pv 0) pe_int (fun _ _ => rfl)) pe_int)) pe_int) pe_int) (pv 1))))))), ?_⟩
    have hBx : Box (n + 2) H b := ⟨x, y, z, hb, hx, hy, hy2, hz, hz2⟩
    have e7 : (10 : Int) ^ Int.toNat 7 = 10000000 := by decide
    have hS : SqL K H b [.int x, .int y, .int z] := .inl (.inl hb)
    refine ⟨.ref b, rfl, b, _, 0, .int x, rfl, rfl, hS, atI_nat (j := 0) rfl, x, 0, rfl, rfl, _, rfl, ite2 (fun e => ?_) (fun e => ?_)⟩
    · -- the number itself serves
      refine ⟨.ref b, rfl, b, _, 0, .int x, rfl, rfl, hS, atI_nat (j := 0) rfl, .int s, rfl, x, s, rfl, rfl, hs, ?_⟩
      refine ⟨.ref b, rfl, b, _, 0, .int x, rfl, rfl, hS, atI_nat (j := 0) rfl, .int s, rfl, x, s, rfl, rfl, wide_div (b := 50) hs (by omega) (by decide) (by decide), .ref b, rfl, b, _, 0, 0, rfl, rfl, hb, rfl, ?_⟩
      refine ⟨_, rfl, q _ _ (Int.emod_nonneg _ (by omega)) (Int.emod_lt_of_pos _ hs) ⟨_, y, z, upd_same, ?_, hy, hy2, hz, by omega⟩ keep_upd⟩
      exact Int.ediv_nonneg hx (by omega)
    · refine ⟨.int s, rfl, 10, 7, rfl, rfl, ⟨by decide, by decide, by decide⟩, s, _, rfl, rfl, _, rfl, ite2 (fun e2 => ?_) (fun _ => ?_)⟩
      · have e3 := of_decide_eq_true e2
        rw [e7] at e3
        refine ⟨_, rfl, 10, 7, rfl, rfl, ⟨by decide, by decide, by decide⟩, b, n + 1, 10000000, rfl, hBx, by decide, by decide, fun r1 H1 a0 a1 hB1 k1 => ?_⟩
        refine ⟨10, 7, rfl, rfl, ⟨by decide, by decide, by decide⟩, _, rfl, _, rfl, s, 1, rfl, rfl, 10, 7, rfl, rfl, ⟨by decide, by decide, by decide⟩, _, _, rfl, rfl, ⟨by decide, by decide⟩, _, 1, rfl, rfl, b, n, _, rfl, hB1, ?_, ?_, fun r2 H2 b0 b1 hB2 k2 => ?_⟩
        · show 0 < (s - 1) / ((10 : Int) ^ Int.toNat 7) + 1
          rw [e7]; omega
        · show (s - 1) / ((10 : Int) ^ Int.toNat 7) + 1 ≤ 10000000
          rw [e7]; omega
        refine ⟨_, _, rfl, rfl, .inl ⟨by decide, by decide⟩, _, _, rfl, rfl, .int s, rfl, _, s, rfl, rfl, hs, ?_⟩
        exact q _ _ (Int.emod_nonneg _ (by omega)) (Int.emod_lt_of_pos _ hs) hB2 (k1.trans k2)
      refine ⟨.ref b, rfl, b, _, 2, .int z, rfl, rfl, hS, atI_nat (j := 2) rfl, z, 1, rfl, rfl, .ref b, rfl, b, _, 2, 2, rfl, rfl, hb, rfl, ?_⟩
      have h2 : upd H b (.lst ([V.int x, V.int y, V.int z].set 2 (.int (z + 1)))) b = some (.lst [.int x, .int y, .int (z + 1)]) := upd_same
      have hS2 : SqL K (upd H b (.lst ([V.int x, V.int y, V.int z].set 2 (.int (z + 1))))) b [.int x, .int y, .int (z + 1)] := .inl (.inl h2)
      refine ⟨.ref b, rfl, b, _, 1, .int y, rfl, rfl, hS2, atI_nat (j := 1) rfl, .ref b, rfl, b, _, 2, .int (z + 1), rfl, rfl, hS2, atI_nat (j := 2) rfl, 48271, z + 1, rfl, rfl, .inl ⟨by decide, by decide⟩, y, _, rfl, rfl, _, 5, rfl, rfl, ⟨by decide, by decide, by omega⟩, _, 2147483647, rfl, rfl, (show (0 : Int) < 2147483647 by decide), ?_⟩
      have o1 : 0 ≤ (y + 48271 * (z + 1)) ^ Int.toNat 5 % 2147483647 := Int.emod_nonneg _ (by decide)
      have o2 : (y + 48271 * (z + 1)) ^ Int.toNat 5 % 2147483647 < 2147483647 := Int.emod_lt_of_pos _ (by decide)
      refine ⟨_, rfl, _, rfl, _, 30011, rfl, rfl, (show (0 : Int) < 30011 by decide), _, 7, rfl, rfl, _, _, rfl, rfl, .inl ⟨Int.lt_of_lt_of_le (by decide) o1, Int.lt_trans o2 (by decide)⟩, .ref b, rfl, b, _, 2, .int (z + 1), rfl, rfl, hS2, atI_nat (j := 2) rfl, z + 1, 7919, rfl, rfl, .inr ⟨by decide, by decide⟩, _, _, rfl, rfl, _, 2147483629, rfl, rfl, (show (0 : Int) < 2147483629 by decide), _, 64, rfl, rfl, ⟨by decide, by decide⟩, .int s, rfl, _, s, rfl, rfl, hs, ?_⟩
      exact q _ _ (Int.emod_nonneg _ (by omega)) (Int.emod_lt_of_pos _ hs) ⟨x, y, z + 1, h2, hx, hy, hy2, by omega, by omega⟩ keep_upd
end
end Pc
namespace Pc
open PySem PySem.Spec PyProof.Rows L2 RZ
/-! ### data -/
theorem dp_ints {K : PySem.W.Frag} {H : Hp} : ∀ ns : List Int, DpAll K H (ns.map V.int) (ns.map PyData.int)
  | [] => .nil
  | n :: r => .cons (.int n) (dp_ints r)
theorem lay_ints : ∀ ns : List Int, PyData.canLayAll0 (ns.map PyData.int) = true
  | [] => rfl
  | n :: r => by
    show (PyData.canLay0 (.int n) && PyData.canLayAll0 (r.map PyData.int)) = true
    rw [lay_ints r]; rfl
theorem depth_ints : ∀ ns : List Int, PyData.depthAll (ns.map PyData.int) = 0
  | [] => rfl
  | n :: r => by
    show max (PyData.depth (.int n)) (PyData.depthAll (r.map PyData.int)) = 0
    rw [depth_ints r]; rfl
theorem shaped_list {ds : List PyData} (h : PyData.canLayAll0 ds = true) (d : PyData.depthAll ds ≤ 63) : SeqAt.shaped (.list ds) = true := by
  unfold SeqAt.shaped
  rw [Bool.and_eq_true]
  exact ⟨h, decide_eq_true (show PyData.depthAll ds + 1 ≤ 64 by omega)⟩
theorem shaped_tuple {ds : List PyData} (h : PyData.canLayAll0 ds = true) (d : PyData.depthAll ds ≤ 63) : SeqAt.shaped (.tuple ds) = true := by
  unfold SeqAt.shaped
  rw [Bool.and_eq_true]
  exact ⟨h, decide_eq_true (show PyData.depthAll ds + 1 ≤ 64 by omega)⟩
theorem shaped_ints (ns : List Int) : SeqAt.shaped (.list (ns.map PyData.int)) = true := shaped_list (lay_ints ns) (by rw [depth_ints]; decide)
theorem shaped_intsT (ns : List Int) : SeqAt.shaped (.tuple (ns.map PyData.int)) = true := shaped_tuple (lay_ints ns) (by rw [depth_ints]; decide)
/-- what a slice of a list of ints is -/
theorem cut_ints (ns : List Int) (lo hi : Option Int) : ∃ ms : List Int, cutV (ns.map V.int) lo hi = ms.map V.int ∧ ms = (ns.drop (HT.sIx ns.length 0 lo)).take (HT.sIx ns.length ns.length hi - HT.sIx ns.length 0 lo) := by
  refine ⟨_, ?_, rfl⟩
  unfold cutV
  rw [List.length_map, List.map_take, List.map_drop]
theorem map_set_int (cs : List Int) (j : Nat) (v : Int) : (cs.map V.int).set j (.int v) = (cs.set j v).map V.int := by
  rw [List.map_set]
theorem small63 {n : Nat} (h : n ≤ 63) : n ≤ sizeLine := Nat.le_trans h (by decide)
end Pc
namespace Pc
open PySem PySem.Spec PyProof.Rows L2 RZ
/-! ### xs != [] for any items -/
def rNeNil (K : PySem.W.Frag) : R2 := fun x y H Q => ∃ a b xs, x = .ref a ∧ y = .ref b ∧ SqL K H a xs ∧ SqL K H b [] ∧ Q (.bl (!xs.isEmpty)) H
theorem op_neNil {X : Cx} (hu : X.A.units + 64 < cLine) : OpR X (compareOp .NotEq) (rNeNil X.K) := by
  intro pins s σ H x y v u Q I rx ry h
  obtain ⟨a, b, xs, rfl, rfl, h1, h2, q⟩ := h
  cases rx; cases ry
  obtain ⟨its, rv, p1, _⟩ := I.list h1
  obtain ⟨its2, rv2, p2, _⟩ := I.list h2
  have l1 := rv.length
  have l2 := rv2.length
  have hu0 : X.A.units < cLine := by omega
  cases xs with
  | nil =>
    have z1 : its.length = 0 := l1.symm
    have z2 : its2.length = 0 := l2.symm
    refine SeqAt.RcNeAt.lists (e := fun _ => true) p1.isList p2.isList (by simp [z1, z2]) hu0 (fun j j1 _ => ?_) X.prog X.w X.xe _ ?_
    · rw [List.size_toArray] at j1; omega
    · rw [List.size_toArray, z1]
      exact ⟨.bl false, H, I, rfl, q⟩
  | cons z r =>
    have z1 : its.length ≠ 0 := by rw [← l1]; simp
    have z2 : its2.length = 0 := l2.symm
    refine SeqAt.RcNeAt.lists_lengths p1.isList p2.isList (by simp [z2, z1]) hu0 X.prog X.w X.xe _ ?_
    exact ⟨.bl true, H, I, rfl, q⟩
theorem perm_erase {α : Type} : ∀ {l : List α} {i : Nat} (h : i < l.length), (l[i] :: l.eraseIdx i).Perm l
  | a :: r, 0, _ => List.Perm.refl _
  | a :: r, i + 1, h => (List.Perm.swap a (r[i]'(Nat.lt_of_succ_lt_succ h)) (r.eraseIdx i)).trans ((perm_erase (l := r) (i := i) (Nat.lt_of_succ_lt_succ h)).cons a)
/-- the place of an index that is not negative -/
theorem seq_ix {i : Int} {n : Nat} (h0 : 0 ≤ i) (h : i < n) : seqIndex? i n = some i.toNat := seqIndex_of h0 h
end Pc
namespace Pc
open PySem PySem.Spec PyProof.Rows L2 RZ
section
variable {P : Program} {w : World} {K : PySem.W.Frag} {mg : Str → Option Value} {base : Heap}
/-! ### some things in drawn order -/
def spStrewn (K : PySem.W.Frag) : Sp := fun vs H Q _ => ∃ (b a : Addr) (n : Nat) (xs : List V), vs = [.ref b, .ref a] ∧ Box (n + xs.length) H b ∧ SqL K H a xs ∧ xs.length ≤ 1000 ∧
  ∀ (H' : Hp) (p : Addr) (ys : List V), ys.Perm xs → Keep b H H' → Box n H' b → H p = none → H' p = some (.lst ys) → Q (.ref p) H'
theorem ok_strewn (T : Env K mg) : FnOk P w K mg base CX0 2 T.f_strewn T.d_strewn ["_law_box_here", "_law_some"] (spStrewn K) := by
  have GT : FnOk P w K mg base CX0 1 T.f_take T.d_take ["_law_box_here", "_law_below"] spTake := ok_take T
  refine T.F_strewn.ok sc_strewn (fun vs H Q E h => ?_) (fun cdv A outer s H vs Q E hr h => ?_)
  · obtain ⟨b, a, n, xs, rfl, _⟩ := h
    rfl
  · obtain ⟨b, a, n, xs, rfl, hB, hS, hlen, q⟩ := h
    refine ⟨_, pss_cons (ps_par (by rfl) sc_strewn.nd (i := 2) (j := 3) rfl rfl (by decide) rfl rfl (pa_cons (pe_callTy call_list_of (by rfl) T.n_list (by decide +kernel) (pa_cons (pv 1) pa_nil)) (pa_cons (pe_lst pa_nil) pa_nil)) (by rfl))
      (pss_cons (ps_for PassesOwn.never rfl (pi_range1 (by rfl) T.n_range (pa_cons (pe_callB call_len_seq (by rfl) T.n_len PySem.boot_len (pa_cons (pv 2) pa_nil)) pa_nil)) (pg_name (i := 4) sc_strewn.nd rfl (.inl rfl))
        (pss_one (ps_expr (pe_bm PySem.F.plainAttrs_list PySem.F.slot_list_append PySem.F.type_list_append mt_append (pv 3) (pa_cons
          (pe_bm PySem.F.plainAttrs_list PySem.F.slot_list_pop PySem.F.type_list_pop mt_popAt (pv 2) (pa_cons
            (pe_call GT hr (by rfl) T.g_take T.F_take.kp T.b_take .nil pass0 (pa_cons (pv 0) (pa_cons (pe_callB call_len_seq (by rfl) T.n_len PySem.boot_len (pa_cons (pv 2) pa_nil)) pa_nil))) pa_nil)) pa_nil)))))
      (pss_one (ps_ret (pv 3)))), ?_⟩
    refine ⟨.ref a, rfl, a, xs, rfl, .inl hS, fun l nl => ⟨Nat.zero_le _, fun f nf => ⟨_, _, rfl, ?_⟩⟩⟩
    have s1 : Same H (upd (upd H l (.lst xs)) f (.lst [])) := (same_new nl).trans (same_new nf)
    have nf0 : H f = none := (same_new nl).free nf
    have hlf : l ≠ f := ne_of_none upd_same nf
    have hbl : b ≠ l := hB.ne_new nl
    have hbf : b ≠ f := hB.ne_new nf0
    have l0 : (upd (upd H l (.lst xs)) f (.lst [])) l = some (.lst xs) := by rw [upd_ne hlf, upd_same]
    refine ⟨.ref l, rfl, l, xs, rfl, .inl (.inl (.inl l0)), _, rfl, by omega, by omega, ?_⟩
    rw [show ((xs.length : Int)).toNat = xs.length by omega]
    refine for_range (n := xs.length) (fun t σ H' => ∃ (left found : List V) (y : Option V), σ = [some (.ref b), some (.ref a), some (.ref l), some (.ref f), y] ∧ H' l = some (.lst left) ∧ H' f = some (.lst found) ∧ (left ++ found).Perm xs ∧ Box (n + left.length) H' b ∧ Keep b H H' ∧ left.length + t = xs.length)
      ⟨xs, [], none, rfl, l0, upd_same, by rw [List.append_nil], hB.same s1, Keep.of_same s1, rfl⟩ (fun t σ H' ht hW => ?_) (fun σ H' hW => ?_)
    · obtain ⟨left, found, y, rfl, el2, ef2, hp, hb', hk, hm⟩ := hW
      have hl0 : 0 < left.length := by omega
      have hll : left.length ≤ 1000 := by omega
      refine ⟨.ref f, rfl, .inl ⟨rfl, _, .inl (.inl ef2)⟩, .ref l, rfl, .inl ⟨rfl, _, .inl (.inl el2)⟩, .ref b, rfl, .ref l, rfl, l, left, rfl, .inl (.inl (.inl el2)), ?_⟩
      refine ⟨b, n + (left.length - 1), left.length, rfl, hb'.mono (by omega), by omega, by omega, fun r H2 r0 r1 hb2 k2 => ?_⟩
      have el3 : H2 l = some (.lst left) := k2 l _ hbl.symm el2
      have ef3 : H2 f = some (.lst found) := k2 f _ hbf.symm ef2
      have hj : r.toNat < left.length := by omega
      refine ⟨l, left, r, r.toNat, left[r.toNat], rfl, rfl, el3, by omega, by omega, seq_ix r0 r1, List.getElem?_eq_getElem hj, ?_⟩
      have ef4 : (upd H2 l (.lst (left.eraseIdx r.toNat))) f = some (.lst found) := by rw [upd_ne hlf.symm]; exact ef3
      have hfl : found.length ≤ 1000 := by
        have := hp.length_eq
        rw [List.length_append] at this
        omega
      refine ⟨f, found, _, rfl, rfl, ef4, small1000 hfl, left.eraseIdx r.toNat, found ++ [left[r.toNat]], _, rfl, ?_, upd_same, ?_, ?_, ?_, ?_⟩
      · rw [upd_ne hlf, upd_same]
      · refine List.Perm.trans ?_ hp
        have p1 : (left[r.toNat] :: left.eraseIdx r.toNat).Perm left := perm_erase hj
        have p2 : (left.eraseIdx r.toNat ++ (found ++ [left[r.toNat]])).Perm (left[r.toNat] :: left.eraseIdx r.toNat ++ found) := by
          rw [← List.append_assoc]
          exact List.perm_append_comm.trans (by rw [List.singleton_append, List.cons_append])
        exact p2.trans (p1.append_right found)
      · have : (left.eraseIdx r.toNat).length = left.length - 1 := List.length_eraseIdx_of_lt hj
        rw [this]
        refine (hb2.keep (c := l) keep_upd hbl).keep (c := f) keep_upd hbf
      · intro x o nx hx
        have nxl : x ≠ l := ne_of_none hx nl
        have nxf : x ≠ f := ne_of_none hx nf0
        rw [upd_ne nxf, upd_ne nxl]
        exact k2 x o nx (hk x o nx hx)
      · rw [List.length_eraseIdx_of_lt hj]; omega
    · obtain ⟨left, found, y, rfl, el2, ef2, hp, hb', hk, hm⟩ := hW
      have hl0 : left = [] := List.length_eq_zero_iff.mp (by omega)
      subst hl0
      exact ⟨.ref f, rfl, q _ f found hp hk hb' nf0 ef2⟩
end
end Pc
namespace Pc
open PySem PySem.Spec PyProof.Rows L2 RZ
/-! ### pairings as lists of natural numbers -/
/-- the numbers as values -/
def nv (l : List Nat) : List V := l.map fun (i : Nat) => V.int (i : Int)
theorem nv_length (l : List Nat) : (nv l).length = l.length := List.length_map _
theorem nv_get {l : List Nat} {i x : Nat} (h : l[i]? = some x) : (nv l)[i]? = some (.int x) := by
  unfold nv; rw [List.getElem?_map, h]; rfl
theorem nv_at {l : List Nat} {i x : Nat} (h : l[i]? = some x) : atI (nv l) (i : Int) = some (.int x) := atI_nat (nv_get h)
theorem nv_set (l : List Nat) (i x : Nat) : (nv l).set i (.int (x : Int)) = nv (l.set i x) := by
  unfold nv; rw [List.map_set]
theorem nv_get' {l : List Nat} {i : Nat} {v : V} (h : (nv l)[i]? = some v) : ∃ x, l[i]? = some x ∧ v = .int (x : Int) := by
  unfold nv at h
  rw [List.getElem?_map] at h
  cases e : l[i]? with
  | none => rw [e] at h; cases h
  | some x => rw [e] at h; exact ⟨x, rfl, (Option.some.inj h).symm⟩
theorem ixN_nat {n i : Nat} (h : i < n) : ixN n (i : Int) = some i := by
  unfold ixN
  rw [if_pos (by omega), if_pos (by omega)]; rfl
theorem get_some {α : Type} {l : List α} {i : Nat} (h : i < l.length) : ∃ x, l[i]? = some x := ⟨_, List.getElem?_eq_getElem h⟩
theorem get_lt {α : Type} {l : List α} {i : Nat} {x : α} (h : l[i]? = some x) : i < l.length := (List.getElem?_eq_some_iff.mp h).1
/-- a pairing of n people -/
structure IsPair (n : Nat) (ps : List Nat) : Prop where
  len : ps.length = n
  par : ∀ x, x < n → ∃ y, ps[x]? = some y ∧ y < n ∧ y ≠ x ∧ ps[y]? = some x
/-- after t turns: the first t pairs are joined -/
def PInv (os fs : List Nat) (t : Nat) : Prop := fs.length = os.length ∧ ∀ j, j < t → ∀ x y, os[2 * j]? = some x → os[2 * j + 1]? = some y → fs[x]? = some y ∧ fs[y]? = some x
theorem PInv.step {os fs : List Nat} {t x y : Nat} (hnd : os.Nodup) (hlt : ∀ z ∈ os, z < os.length) (h : PInv os fs t) (hx : os[2 * t]? = some x) (hy : os[2 * t + 1]? = some y) :
    PInv os ((fs.set x y).set y x) (t + 1) := by
  obtain ⟨hl, hp⟩ := h
  have xl : x < fs.length := by rw [hl]; exact hlt x (List.mem_of_getElem? hx)
  have yl : y < fs.length := by rw [hl]; exact hlt y (List.mem_of_getElem? hy)
  have xy : x ≠ y := fun e => by
    subst e
    have := nd_ix hnd hx hy
    omega
  refine ⟨by rw [List.length_set, List.length_set, hl], fun j hj u v hu hv => ?_⟩
  by_cases e : j = t
  · subst e
    have e1 : u = x := Option.some.inj (hu.symm.trans hx)
    have e2 : v = y := Option.some.inj (hv.symm.trans hy)
    subst e1 e2
    refine ⟨?_, ?_⟩
    · rw [List.getElem?_set_ne (Ne.symm xy), List.getElem?_set_self xl]
    · rw [List.getElem?_set_self (by rw [List.length_set]; exact yl)]
  · obtain ⟨h1, h2⟩ := hp j (by omega) u v hu hv
    have a1 : x ≠ u := fun z => by subst z; have := nd_ix hnd hx hu; omega
    have a2 : y ≠ u := fun z => by subst z; have := nd_ix hnd hy hu; omega
    have a3 : x ≠ v := fun z => by subst z; have := nd_ix hnd hx hv; omega
    have a4 : y ≠ v := fun z => by subst z; have := nd_ix hnd hy hv; omega
    refine ⟨?_, ?_⟩
    · rw [List.getElem?_set_ne a2, List.getElem?_set_ne a1]; exact h1
    · rw [List.getElem?_set_ne a4, List.getElem?_set_ne a3]; exact h2
theorem PInv.done {os fs : List Nat} {n : Nat} (hp : os.Perm (List.range n)) (he : n % 2 = 0) (h : PInv os fs (n / 2)) : IsPair n fs := by
  have hl : os.length = n := by rw [hp.length_eq, List.length_range]
  have hnd : os.Nodup := hp.nodup_iff.mpr List.nodup_range
  refine ⟨by rw [h.1, hl], fun x hx => ?_⟩
  have hm : x ∈ os := hp.mem_iff.mpr (List.mem_range.mpr hx)
  obtain ⟨i, hi, ei⟩ := List.mem_iff_getElem.mp hm
  have gi : os[i]? = some x := by rw [List.getElem?_eq_getElem hi, ei]
  have lt_n : ∀ {k z : Nat}, os[k]? = some z → z < n := fun {k z} hz => List.mem_range.mp (hp.mem_iff.mp (List.mem_of_getElem? hz))
  by_cases hq : i % 2 = 0
  · have i1 : i + 1 < os.length := by omega
    obtain ⟨y, gy⟩ := get_some i1
    have g1 : os[2 * (i / 2)]? = some x := by rw [show 2 * (i / 2) = i by omega]; exact gi
    have g2 : os[2 * (i / 2) + 1]? = some y := by rw [show 2 * (i / 2) + 1 = i + 1 by omega]; exact gy
    obtain ⟨r1, r2⟩ := h.2 (i / 2) (by omega) x y g1 g2
    exact ⟨y, r1, lt_n gy, fun e => by subst e; have := nd_ix hnd gi gy; omega, r2⟩
  · have i1 : i - 1 < os.length := by omega
    obtain ⟨y, gy⟩ := get_some i1
    have g1 : os[2 * (i / 2)]? = some y := by rw [show 2 * (i / 2) = i - 1 by omega]; exact gy
    have g2 : os[2 * (i / 2) + 1]? = some x := by rw [show 2 * (i / 2) + 1 = i by omega]; exact gi
    obtain ⟨r1, r2⟩ := h.2 (i / 2) (by omega) y x g1 g2
    exact ⟨y, r2, lt_n gy, fun e => by subst e; have := nd_ix hnd gi gy; omega, r1⟩
/-- range(0, n, 2) -/
theorem fits_long {i : Int} (h1 : -(2 ^ 62) ≤ i) (h2 : i < 2 ^ 62) : Builtin.Range.rangeFitsLong i = true := by
  unfold Builtin.Range.rangeFitsLong
  rw [Bool.and_eq_true]
  exact ⟨decide_eq_true (by omega), decide_eq_true (by omega)⟩
theorem rgc_two {n : Nat} (h : n ≤ 1000000) : RgC 0 (n : Int) 2 ((n + 1) / 2) := by
  have e : Builtin.Range.rangeSize 0 (n : Int) 2 = (((n + 1) / 2 : Nat) : Int) := by
    unfold Builtin.Range.rangeSize
    rw [if_pos (by decide)]
    split <;> omega
  refine ⟨by decide, by decide, ?_, e⟩
  unfold Builtin.Range.small
  rw [e, fits_long (i := 0) (by decide) (by decide), fits_long (i := (n : Int)) (by omega) (by omega), fits_long (i := 2) (by decide) (by decide), fits_long (i := (((n + 1) / 2 : Nat) : Int)) (by omega) (by omega), if_pos (by decide), fits_long (i := (n : Int) + (2 - 1)) (by omega) (by omega), Bool.or_true]
  rfl
theorem rep_flat {α : Type} (n : Nat) (x : α) : (List.replicate n [x]).flatten = List.replicate n x := by
  induction n with
  | zero => rfl
  | succ n ih => rw [List.replicate_succ, List.flatten_cons, ih, List.replicate_succ]; rfl
end Pc
namespace Pc
open PySem PySem.Spec PyProof.Rows L2 RZ
theorem perm_map_inv {α β : Type} (f : α → β) {zs ys : List β} (h : zs.Perm ys) : ∀ l : List α, zs = l.map f → ∃ l' : List α, ys = l'.map f ∧ l'.Perm l := by
  induction h with
  | nil => exact fun l e => ⟨l, e, List.Perm.refl _⟩
  | cons x _ ih =>
    intro l e
    cases l with
    | nil => cases e
    | cons a r =>
      injection e with e1 e2
      obtain ⟨l', h1, h2⟩ := ih r e2
      exact ⟨a :: l', by rw [h1, e1]; rfl, h2.cons a⟩
  | swap x y t =>
    intro l e
    cases l with
    | nil => cases e
    | cons a r =>
      cases r with
      | nil => injection e with _ e2; cases e2
      | cons b r =>
        injection e with e1 e2
        injection e2 with e2 e3
        exact ⟨b :: a :: r, by rw [e1, e2, e3]; rfl, List.Perm.swap _ _ _⟩
  | trans _ _ ih1 ih2 =>
    intro l e
    obtain ⟨l1, h1, h2⟩ := ih1 l e
    obtain ⟨l2, h3, h4⟩ := ih2 l1 h1
    exact ⟨l2, h3, h4.trans h2⟩
theorem rg_nv (n : Nat) : rgV 0 (n : Int) = nv (List.range n) := by
  unfold rgV nv
  rw [Int.sub_zero, Int.toNat_natCast]
  refine List.map_congr_left fun i _ => ?_
  rw [Int.zero_add]
end Pc
namespace Pc
open PySem PySem.Spec PyProof.Rows L2 RZ
/-! ### data where more is tracked -/
theorem same_tup {K : PySem.W.Frag} {H H' : Hp} {a : Addr} {xs : List V} (e : Same H H') (h : SqT K H a xs) : SqT K H' a xs := by
  rcases h with (h | ⟨o, h⟩) | h
  · exact .inl (.inl (e _ _ h))
  · exact .inl (.inr ⟨o, e _ _ h⟩)
  · exact .inr h
mutual
theorem dp_same {K : PySem.W.Frag} {H H' : Hp} (e : Same H H') : ∀ {v : V} {d : PyData}, Dp K H v d → Dp K H' v d
  | _, _, .non => .non
  | _, _, .bl b => .bl b
  | _, _, .int i => .int i
  | _, _, .str x => .str x
  | _, _, .lst h a => .lst (e.seq h) (dpa_same e a)
  | _, _, .tup h a => .tup (same_tup e h) (dpa_same e a)
theorem dpa_same {K : PySem.W.Frag} {H H' : Hp} (e : Same H H') : ∀ {vs : List V} {ds : List PyData}, DpAll K H vs ds → DpAll K H' vs ds
  | _, _, .nil => .nil
  | _, _, .cons h a => .cons (dp_same e h) (dpa_same e a)
end
theorem dpa_len {K : PySem.W.Frag} {H : Hp} : ∀ {vs : List V} {ds : List PyData}, DpAll K H vs ds → vs.length = ds.length
  | _, _, .nil => rfl
  | _, _, .cons _ a => by rw [List.length_cons, List.length_cons, dpa_len a]
theorem dpa_get {K : PySem.W.Frag} {H : Hp} : ∀ {vs : List V} {ds : List PyData} {i : Nat} {v : V}, DpAll K H vs ds → vs[i]? = some v → ∃ d, ds[i]? = some d ∧ Dp K H v d
  | _, _, _, _, .nil, h => by simp at h
  | _, _, 0, _, .cons (d := d) h _, e => by
    cases Option.some.inj e
    exact ⟨d, rfl, h⟩
  | _, _, i + 1, v, .cons _ a, e => dpa_get (i := i) a e
theorem depth_get : ∀ {ds : List PyData} {i : Nat} {d : PyData}, ds[i]? = some d → d.depth ≤ PyData.depthAll ds
  | [], _, _, h => by simp at h
  | d :: r, 0, _, h => by
    cases Option.some.inj h
    exact Nat.le_max_left _ _
  | d :: r, i + 1, x, h => Nat.le_trans (depth_get (i := i) (ds := r) h) (Nat.le_max_right _ _)
mutual
/-- no list in it is longer than a hundred thousand -/
def narrow : PyData → Prop
  | .list xs => xs.length ≤ 100000 ∧ narrowAll xs
  | .tuple xs => xs.length ≤ 100000 ∧ narrowAll xs
  | _ => True
def narrowAll : List PyData → Prop
  | [] => True
  | x :: xs => narrow x ∧ narrowAll xs
end
theorem narrow_get : ∀ {ds : List PyData} {i : Nat} {d : PyData}, narrowAll ds → ds[i]? = some d → narrow d
  | [], _, _, _, h => by simp at h
  | d :: r, 0, _, n, h => by
    cases Option.some.inj h
    exact n.1
  | d :: r, i + 1, x, n, h => narrow_get (i := i) (ds := r) n.2 h
theorem narrow_of : ∀ {ds : List PyData}, (∀ d ∈ ds, narrow d) → narrowAll ds
  | [], _ => trivial
  | d :: r, h => ⟨h d List.mem_cons_self, narrow_of fun x hx => h x (List.mem_cons_of_mem _ hx)⟩
theorem narrow_ints (ns : List Int) : narrowAll (ns.map PyData.int) := narrow_of fun d hd => by
  obtain ⟨i, _, rfl⟩ := List.mem_map.mp hd
  exact trivial
theorem line_big {n : Nat} (h : n ≤ 100000) : n < sizeLine := Nat.lt_of_le_of_lt h (by decide)
theorem ty_lst {K : PySem.W.Frag} {H : Hp} {a : Addr} {xs : List V} (h : SqL K H a xs) : TyX K H (.ref a) (.type "list") := by
  rcases h with (h | ⟨o, h⟩) | ⟨o, its, n, h, c, _⟩
  · exact .base (.lst h)
  · exact .base (.frz h)
  · exact .kList h c
theorem ty_tup {K : PySem.W.Frag} {H : Hp} {a : Addr} {xs : List V} (h : SqT K H a xs) : TyX K H (.ref a) (.type "tuple") := by
  rcases h with (h | ⟨o, h⟩) | ⟨o, its, n, h, c, _⟩
  · exact .base (.tup h)
  · exact .fTuple h
  · exact .kTuple h c
theorem kit2 {K : PySem.W.Frag} {t a b : String} {p q : Bool} (h1 : kitB t a = some p) (h2 : kitB t b = some q) : PySem.W.kitAny K (.type t) [.type a, .type b] = some (p || q) := by
  refine kitAny_cons (kit_ty h1) (fun e => kitAny_cons (kit_ty h2) (fun e2 => ?_) (fun e2 => ?_)) (fun e => ?_)
  · subst e e2; rfl
  · subst e e2; rfl
  · subst e; rfl
section
variable {K : PySem.W.Frag}
theorem any_lt_int : PySem.W.kitAny K (.type "int") [.type "list", .type "tuple"] = some false := kit2 (p := false) (q := false) (by decide +kernel) (by decide +kernel)
theorem any_sb_int : PySem.W.kitAny K (.type "int") [.type "str", .type "bool"] = some false := kit2 (p := false) (q := false) (by decide +kernel) (by decide +kernel)
theorem any_bs_int : PySem.W.kitAny K (.type "int") [.type "bool", .type "str"] = some false := kit2 (p := false) (q := false) (by decide +kernel) (by decide +kernel)
theorem one_int_int : PySem.W.kitOne K (.type "int") (.type "int") = some true := kit_ty (by decide +kernel)
theorem one_int_bool : PySem.W.kitOne K (.type "int") (.type "bool") = some false := kit_ty (by decide +kernel)
theorem one_int_list : PySem.W.kitOne K (.type "int") (.type "list") = some false := kit_ty (by decide +kernel)
theorem one_int_tuple : PySem.W.kitOne K (.type "int") (.type "tuple") = some false := kit_ty (by decide +kernel)
theorem any_lt_none : PySem.W.kitAny K (.type "NoneType") [.type "list", .type "tuple"] = some false := kit2 (p := false) (q := false) (by decide +kernel) (by decide +kernel)
theorem any_sb_none : PySem.W.kitAny K (.type "NoneType") [.type "str", .type "bool"] = some false := kit2 (p := false) (q := false) (by decide +kernel) (by decide +kernel)
theorem any_bs_none : PySem.W.kitAny K (.type "NoneType") [.type "bool", .type "str"] = some false := kit2 (p := false) (q := false) (by decide +kernel) (by decide +kernel)
theorem one_none_int : PySem.W.kitOne K (.type "NoneType") (.type "int") = some false := kit_ty (by decide +kernel)
theorem one_none_bool : PySem.W.kitOne K (.type "NoneType") (.type "bool") = some false := kit_ty (by decide +kernel)
theorem one_none_list : PySem.W.kitOne K (.type "NoneType") (.type "list") = some false := kit_ty (by decide +kernel)
theorem one_none_tuple : PySem.W.kitOne K (.type "NoneType") (.type "tuple") = some false := kit_ty (by decide +kernel)
theorem any_lt_bool : PySem.W.kitAny K (.type "bool") [.type "list", .type "tuple"] = some false := kit2 (p := false) (q := false) (by decide +kernel) (by decide +kernel)
theorem any_sb_bool : PySem.W.kitAny K (.type "bool") [.type "str", .type "bool"] = some true := kit2 (p := false) (q := true) (by decide +kernel) (by decide +kernel)
theorem any_bs_bool : PySem.W.kitAny K (.type "bool") [.type "bool", .type "str"] = some true := kit2 (p := true) (q := false) (by decide +kernel) (by decide +kernel)
theorem one_bool_int : PySem.W.kitOne K (.type "bool") (.type "int") = some true := kit_ty (by decide +kernel)
theorem one_bool_bool : PySem.W.kitOne K (.type "bool") (.type "bool") = some true := kit_ty (by decide +kernel)
theorem one_bool_list : PySem.W.kitOne K (.type "bool") (.type "list") = some false := kit_ty (by decide +kernel)
theorem one_bool_tuple : PySem.W.kitOne K (.type "bool") (.type "tuple") = some false := kit_ty (by decide +kernel)
theorem any_lt_str : PySem.W.kitAny K (.type "str") [.type "list", .type "tuple"] = some false := kit2 (p := false) (q := false) (by decide +kernel) (by decide +kernel)
theorem any_sb_str : PySem.W.kitAny K (.type "str") [.type "str", .type "bool"] = some true := kit2 (p := true) (q := false) (by decide +kernel) (by decide +kernel)
theorem any_bs_str : PySem.W.kitAny K (.type "str") [.type "bool", .type "str"] = some true := kit2 (p := false) (q := true) (by decide +kernel) (by decide +kernel)
theorem one_str_int : PySem.W.kitOne K (.type "str") (.type "int") = some false := kit_ty (by decide +kernel)
theorem one_str_bool : PySem.W.kitOne K (.type "str") (.type "bool") = some false := kit_ty (by decide +kernel)
theorem one_str_list : PySem.W.kitOne K (.type "str") (.type "list") = some false := kit_ty (by decide +kernel)
theorem one_str_tuple : PySem.W.kitOne K (.type "str") (.type "tuple") = some false := kit_ty (by decide +kernel)
theorem any_lt_list : PySem.W.kitAny K (.type "list") [.type "list", .type "tuple"] = some true := kit2 (p := true) (q := false) (by decide +kernel) (by decide +kernel)
theorem any_sb_list : PySem.W.kitAny K (.type "list") [.type "str", .type "bool"] = some false := kit2 (p := false) (q := false) (by decide +kernel) (by decide +kernel)
theorem any_bs_list : PySem.W.kitAny K (.type "list") [.type "bool", .type "str"] = some false := kit2 (p := false) (q := false) (by decide +kernel) (by decide +kernel)
theorem one_list_int : PySem.W.kitOne K (.type "list") (.type "int") = some false := kit_ty (by decide +kernel)
theorem one_list_bool : PySem.W.kitOne K (.type "list") (.type "bool") = some false := kit_ty (by decide +kernel)
theorem one_list_list : PySem.W.kitOne K (.type "list") (.type "list") = some true := kit_ty (by decide +kernel)
theorem one_list_tuple : PySem.W.kitOne K (.type "list") (.type "tuple") = some false := kit_ty (by decide +kernel)
theorem any_lt_tuple : PySem.W.kitAny K (.type "tuple") [.type "list", .type "tuple"] = some true := kit2 (p := false) (q := true) (by decide +kernel) (by decide +kernel)
theorem any_sb_tuple : PySem.W.kitAny K (.type "tuple") [.type "str", .type "bool"] = some false := kit2 (p := false) (q := false) (by decide +kernel) (by decide +kernel)
theorem any_bs_tuple : PySem.W.kitAny K (.type "tuple") [.type "bool", .type "str"] = some false := kit2 (p := false) (q := false) (by decide +kernel) (by decide +kernel)
theorem one_tuple_int : PySem.W.kitOne K (.type "tuple") (.type "int") = some false := kit_ty (by decide +kernel)
theorem one_tuple_bool : PySem.W.kitOne K (.type "tuple") (.type "bool") = some false := kit_ty (by decide +kernel)
theorem one_tuple_list : PySem.W.kitOne K (.type "tuple") (.type "list") = some false := kit_ty (by decide +kernel)
theorem one_tuple_tuple : PySem.W.kitOne K (.type "tuple") (.type "tuple") = some true := kit_ty (by decide +kernel)
end
theorem cls2 (a b : String) : Paired ClsV [.ty a, .ty b] [.type a, .type b] := .cons (.ty a) (.cons (.ty b) .nil)
/-- zip of two tuples -/
theorem walk_zipT {K : PySem.W.Frag} {a b : Addr} {xs ys : List V} {n : Nat} (hn : n = min xs.length ys.length) : Walk (ItzT K a b) n (fun H => SqT K H a xs ∧ SqT K H b ys) (YPair (fun i => xs[i]?) (fun i => ys[i]?)) := by
  subst hn
  refine ⟨fun i _ hi q => ?_, fun _ q => ⟨xs, ys, q.1, q.2, by omega⟩, fun i H v H' _ q y => ?_⟩
  · obtain ⟨x, hx⟩ := get_some (l := xs) (i := i) (by omega)
    obtain ⟨z, hz⟩ := get_some (l := ys) (i := i) (by omega)
    exact ⟨xs, ys, x, z, q.1, q.2, hx, hz⟩
  · obtain ⟨T, x, z, h1, h2, h3, h4, h5⟩ := y
    exact ⟨T, x, z, h1, h2, h3, h4 xs q.1, h5 ys q.2⟩
theorem fn_never {P : Program} {w : World} {K : PySem.W.Frag} {mg : Str → Option Value} {base : Heap} {CX : CXT} {k : Nat} {f : Addr} {fd : FuncData} {ps : List Str} {sp : Sp} (h : ∀ vs H Q E, ¬ sp vs H Q E) : FnOk P w K mg base CX k f fd ps sp :=
  ⟨fun vs H Q E q => absurd q (h vs H Q E), fun _ _ _ H _ _ vs Q E _ _ _ _ q => absurd q (h vs H Q E)⟩
/-- a comprehension without a test -/
theorem yes_if {σ : L2.St} {H : Hp} {A B : Hp → Prop} (h : A H) : tYes σ H (fun b H3 => if b = true then A H3 else B H3) := by
  show if true = true then A H else B H
  exact iteT h
theorem all_rep : ∀ n : Nat, (List.replicate n true).all id = true
  | 0 => rfl
  | n + 1 => by rw [List.replicate_succ, List.all_cons, all_rep n]; rfl
end Pc
namespace Pc
open PySem PySem.Spec PyProof.Rows L2 RZ
/-! ### enumerate of a tuple -/
theorem draws_tuple {prog : Program} {w : World} {A : Around} (hh : A.handled = none) (it l : Addr) (hne : l ≠ it) (items : Array Value) :
    Draws prog w A it [it, l] items.size (fun i v => items[i]? = some v) (fun i h => h.IsTupleIter it l i ∧ h.IsTuple l items) where
  live i h st := by
    obtain ⟨⟨o, ho, _⟩, _⟩ := st
    exact ⟨o, ho⟩
  frame i h h' st hk := ⟨Heap.IsTupleIter.at st.1 (hk it (by simp)), Heap.IsTuple.at st.2 (hk l (by simp))⟩
  item i s Q E hi st hQ := by
    have hx : items[i]? = some items[i] := by simp [hi]
    exact nextOf_tuple_item st.1 st.2 hx fun h' hit' hs' => hQ _ h' s.toks hx ⟨hit', st.2.extBut hs'.extBut hne⟩ hs'
  done s Q E st hE := nextOf_tuple_end hh st.1 st.2 (by simp) hE
set_option maxHeartbeats 4000000 in
theorem enum_newT (l : Addr) (items : Array Value) (n : Nat) (dct : Option Addr) (sl : Array (Option Value)) :
    Meets (Builtin.«enumerate.__new__» ⟨[.type "enumerate", .ref l], []⟩) (fun _ R s =>
      s.heap.get? l = some { cls := .type "tuple", dict := dct, data := .seq items n, slots := sl } ∧
      R (.ok (.ret (.ref (s.heap.push { cls := .type "tuple_iterator", data := .fields #[.ref l, .int 0 0] }).objs.size)))
        { s with heap := Heap.push (s.heap.push { cls := .type "tuple_iterator", data := .fields #[.ref l, .int 0 0] }) { cls := .type "enumerate", data := .fields #[.none, .bool false, .ref s.heap.objs.size, rawInt 0, .none, .none] } }) := by
  refine .of_wp fun prog w A R s h => ?_
  obtain ⟨hp, g, d, tk, os⟩ := s
  obtain ⟨hl, h⟩ := h
  have subE := sub_enumerate
  have isT : Heap.IsTuple (Shared.heap ⟨hp, g, d, tk, os⟩) l items := ⟨_, hl, rfl, n, rfl⟩
  wp_walk using AutoSeq1.wpAny_loadPart' hl
  refine wpAny_stack_any fun st => wpAny_pure ?_
  split
  · rename_i c _ _ _ _ _
    cases (c == Value.type "enumerate") <;> (wp_walk using AutoSeq1.wpAny_loadPart' hl, wpAny_pyIter_tuple isT; exact ⟨_, rfl, h⟩)
  · wp_walk using AutoSeq1.wpAny_loadPart' hl, wpAny_pyIter_tuple isT
    exact ⟨_, rfl, h⟩
theorem call_enumT {prog : Program} {w : World} {A : Around} {E : Value → Shared → Prop} {s : Shared} {l : Addr} {items : Array Value} {Q : Value → Shared → Prop} (hL : s.heap.IsTuple l items)
    (h : ∀ h', IsEnum h' (s.heap.objs.size + 1) s.heap.objs.size 0 .none → h'.IsTupleIter s.heap.objs.size l 0 →
      (∀ b o, s.heap.get? b = some o → h'.get? b = some o) → Q (.ref (s.heap.objs.size + 1)) { s with heap := h' }) :
    wpAny (model prog w) A (call (.type "enumerate") [.ref l]) Q E s := by
  obtain ⟨⟨c, dct, dt, sl⟩, hl, hc, n, hd⟩ := hL
  have hc' : c = .type "tuple" := hc
  have hd' : dt = .seq items n := hd
  subst hc' hd'
  refine callType_new F.called_enumerate (by decide) (F.typeCall_enumerate_1 _) (F.newCall_enumerate_1 _) (fun obj => F.args_object_init_2 obj _) F.entry_enumerate_new (enum_newT l items n dct sl) ⟨hl, ?_⟩
  have hz : (s.heap.push { cls := .type "tuple_iterator", data := .fields #[.ref l, .int 0 0] }).objs.size = s.heap.objs.size + 1 := Heap.size_push ..
  have he := Heap.get?_push_size (s.heap.push { cls := .type "tuple_iterator", data := .fields #[.ref l, .int 0 0] })
    (o := { cls := .type "enumerate", data := .fields #[.none, .bool false, .ref s.heap.objs.size, rawInt 0, .none, .none] }) rfl
  rw [hz] at he
  show _ ∧ _
  rw [hz]
  exact ⟨⟨_, he, rfl⟩, h _ he ⟨{ cls := .type "tuple_iterator", data := .fields #[.ref l, .int 0 0] }, Heap.get?_push_of_some _ (Heap.get?_push_size _ rfl), rfl, rfl⟩ fun b o x => Heap.get?_push_of_some _ (Heap.get?_push_of_some _ x)⟩
/-- the tuple at a, its items in new pairs with their places -/
def IteT (K : PySem.W.Frag) (a : Addr) : It where
  go i H := ∃ (xs : List V) (x : V), SqT K H a xs ∧ xs[i]? = some x
  yld i H v H' := ∃ T x, v = .ref T ∧ H T = none ∧ H' = upd H T (.tup [.int (i : Nat), x]) ∧ ∀ xs, SqT K H a xs → xs[i]? = some x
  stop i H := ∃ xs : List V, SqT K H a xs ∧ xs.length ≤ i
theorem turn_enumT {P : Program} {w : World} {K : PySem.W.Frag} {elts : List Expr} {kk : Nat} {tpos : Pos} (a e it : Addr) (hei : e ≠ it) (hae : a ≠ e) (hai : a ≠ it) :
    Turn P w K (.Tuple elts kk tpos) (IteT K a) [e, it] e (fun i h => (∃ old, IsEnum h e it ((i : Nat) : Int) old) ∧ h.IsTupleIter it a i) where
  mem := by simp
  obj i h st b hb := by
    obtain ⟨⟨old, he⟩, ⟨o, ho, hc, hd⟩⟩ := st
    rcases (show b = e ∨ b = it by simpa using hb) with z | z
    · rw [z]; exact ⟨_, he, fun v q => nomatch q⟩
    · rw [z]; exact ⟨o, ho, fun v q => by rw [hd] at q; cases q⟩
  keep i h h' st k := by
    obtain ⟨⟨old, he⟩, hi⟩ := st
    exact ⟨⟨old, k e (by simp) _ he⟩, hi.at fun o q => k it (by simp) o q⟩
  item := by
    intro X hP hw hK hc i pins s σ H E I hf st hg
    subst hP hw hK
    obtain ⟨⟨old, he⟩, hit⟩ := st
    obtain ⟨xs, x, hq, hx⟩ := hg
    obtain ⟨its, rv, p, hz⟩ := I.tuple hq
    have p2 : s.heap.IsTuple a its.toArray := p
    obtain ⟨u, hu, ru⟩ := rv.get hx
    have hlt : i < its.toArray.size := by
      rw [List.size_toArray]
      exact get_lt hu
    have D := draws_tuple (prog := X.prog) (w := X.w) (A := X.A.in1) (show X.A.in1.handled = none from I.ok.hd hc) it a hai its.toArray
    have hel : e < s.heap.objs.size := Heap.lt_size he
    have hil : it < s.heap.objs.size := by obtain ⟨_, q, _⟩ := hit; exact Heap.lt_size q
    refine wpAny_pyNext_enum_itemD D he ⟨hit, p2⟩ hlt hei (by simp [hei, hae.symm]) fun y h' tk hy ho hst hT hsz hk => ?_
    have ey : y = u := by
      have : its.toArray[i]? = some y := hy
      rw [List.getElem?_toArray, hu] at this
      exact (Option.some.inj this).symm
    subst ey
    refine ⟨_, rfl, wpAny_letOwnedTupleGo_enum (s := { s with heap := h', toks := tk + 1 }) ho fun h'' he' sb => ?_⟩
    have hT2 : h''.get? s.heap.objs.size = some { cls := .type "tuple", data := .seq #[.int i tk, y] } := (sb.2 _ (Nat.ne_of_gt hel)).trans hT
    have new : ObjOk X.prog X.w (upd H s.heap.objs.size (.tup [.int (i : Nat), x])) h'' s.heap.objs.size (.tup [.int (i : Nat), x]) :=
      ⟨by show 2 ≤ sizeLine; decide, [.int i tk, y], .cons ⟨_, rfl⟩ (.cons ru .nil), ⟨_, hT2, rfl, _, rfl⟩⟩
    have I1 := I.turnedNew (t' := tk + 1) (h' := h'') (ch := [e, it]) (fun b ob hb q => (sb.2 b (fun z => hb (by simp [z]))).trans (hk b ob (fun z => hb (by simp [z])) (fun z => hb (by simp [z])) q)) hf (Nat.le_refl _) new
    refine ⟨.ref s.heap.objs.size, _, I1, rfl, ⟨_, x, rfl, I.hok.fresh (Nat.le_refl _), rfl, fun ys hy => by rw [I.tuple_inj hy hq]; exact hx⟩, ⟨⟨y, ?_⟩, hst.1.at fun o q => (sb.2 it hei.symm).trans q⟩, fun b hb => ?_⟩
    · rw [show ((i + 1 : Nat) : Int) = (i : Int) + 1 by omega]; exact he'
    · have hb' : b < s.heap.objs.size := by
        rcases (show b = e ∨ b = it by simpa using hb) with z | z
        · rw [z]; exact hel
        · rw [z]; exact hil
      rw [upd_ne (Nat.ne_of_lt hb')]
      exact (hf b hb).1
  done := by
    intro X hP hw hK hc i pins s σ H E I hf st hg
    subst hP hw hK
    obtain ⟨⟨old, he⟩, hit⟩ := st
    obtain ⟨xs, hq, hx⟩ := hg
    obtain ⟨its, rv, p, hz⟩ := I.tuple hq
    have p2 : s.heap.IsTuple a its.toArray := p
    obtain ⟨f0, f1, f2, f3, f4, f5⟩ := hf it (by simp)
    have hl := rv.length
    have hT : s.TypeIs (.ref e) "enumerate" := ⟨_, he, rfl⟩
    unfold pyNext
    refine wpAny_bind (wpAny_attempt (wpAny_callSpecial?_slot (name := Str.ofString "__next__") hT F.slot_enumerate_next (wpAny_call_entry F.slot_enumerate_next hT F.entry_enumerate_next ?_ (F.args_enumerate_next_1 _))))
    show wpAny _ _ (field (.ref e) 2 >>= _) _ _ _
    refine wpAny_bind (wpAny_field he rfl (x := .ref it) rfl ?_)
    refine wpAny_bind (nextOf_tuple_end (show X.A.in1.handled = none from I.ok.hd hc) hit p2 (by simp; omega) fun h' x he' hx' => ?_)
    obtain ⟨o, ho, hcl⟩ := hx'
    refine wpAny_bind (wpAny_isInstance (T := "StopIteration") (b := true) ⟨o, ho, hcl⟩ isSubtype_stop ?_)
    exact wpAny_pure ⟨rfl, I.turned (t' := s.toks) (fun b o hb q => he' b o hb q) f0 f1 f3 f4 f5⟩
  self A i s Q E st h := by
    obtain ⟨⟨_, he⟩, _⟩ := st
    exact wpAny_pyIter_enum he h
/-- enumerate of a list or a tuple -/
def iEnumA (K : PySem.W.Frag) (ta : TA) : TI := fun σ H R => ta σ H fun vs H1 => ∃ a xs, vs = [.ref a] ∧ ((SqL K H1 a xs ∧ R (Ite K a) H1) ∨ (SqT K H1 a xs ∧ R (IteT K a) H1))
theorem pi_enumA {X : Cx} {e : Expr} {ta : TA} {p pos tpos : Pos} {elts : List Expr} {kk : Nat} (hg : Gl X "enumerate") (hm : X.mg "enumerate" = none) (ha : PA X [e] ta) (hs : starEach [e] X.env = [(false, eval e X.env)] := by rfl) :
    PI X (.Tuple elts kk tpos) (.Call (.Name "enumerate" p) [e] [] pos) (iEnumA X.K ta) := by
  constructor
  intro pins s σ H R I h
  refine Call_ (ld_blt I hg hm boot_enumerate (callWith_type1 (thn (ha.run pos pins s σ H _ I h) fun us s1 r => ?_) hs rfl))
  obtain ⟨vs, H1, I1, r1, a, xs, ex, q1⟩ := r
  subst ex
  cases r1 with
  | cons r rr =>
    cases rr
    cases r
    have fr : ∀ b, b ∈ [s1.heap.objs.size + 1, s1.heap.objs.size] → FpOk X pins H1 b := fun b hb => by
      have hle : s1.heap.objs.size ≤ b := by
        rcases (show b = s1.heap.objs.size + 1 ∨ b = s1.heap.objs.size by simpa using hb) with z | z <;> omega
      exact I1.fpOk hle (I1.hok.fresh hle)
    rcases q1 with ⟨hq, q⟩ | ⟨hq, q⟩
    · obtain ⟨its, rv, p', hz⟩ := I1.list hq
      refine call_enumerate_list p'.isList fun h' he hit _ hk => wpAny_pyIter_enum he ?_
      exact ⟨_, _, _, _, H1, rfl, I1.kept (t' := s1.toks) hk, turn_enum a (s1.heap.objs.size + 1) s1.heap.objs.size, ⟨⟨.none, he⟩, hit, Nat.succ_ne_self _⟩, fr, q⟩
    · obtain ⟨its, rv, p', hz⟩ := I1.tuple hq
      have p2 : s1.heap.IsTuple a its.toArray := p'
      have hlt : a < s1.heap.objs.size := by obtain ⟨o, ho, _⟩ := p2; exact Heap.lt_size ho
      refine call_enumT p2 fun h' he hit hk => wpAny_pyIter_enum he ?_
      exact ⟨_, _, _, _, H1, rfl, I1.kept (t' := s1.toks) hk, turn_enumT a (s1.heap.objs.size + 1) s1.heap.objs.size (Nat.succ_ne_self _) (Nat.ne_of_lt (Nat.lt_succ_of_lt hlt)) (Nat.ne_of_lt hlt), ⟨⟨.none, he⟩, hit⟩, fr, q⟩
theorem walk_enumT {K : PySem.W.Frag} {a : Addr} {xs : List V} : Walk (IteT K a) xs.length (fun H => SqT K H a xs) (YPair (fun i => some (.int (i : Nat))) (fun i => xs[i]?)) where
  goes i H hi q := by
    obtain ⟨x, hx⟩ := get_some hi
    exact ⟨xs, x, q, hx⟩
  stops H q := ⟨xs, q, Nat.le_refl _⟩
  yields i H v H' hi q y := by
    obtain ⟨T, x, h1, h2, h3, h4⟩ := y
    exact ⟨T, .int (i : Nat), x, h1, h2, h3, rfl, h4 xs q⟩
end Pc
namespace Pc
open PySem PySem.Spec PyProof.Rows L2 RZ
/-! ### t[::-1] of a pair -/
section
variable {prog : Program} {w : World} {A : Around} {E : Value → Shared → Prop} {s : Shared}
theorem applied_rev2 {sl : Addr} {vk : Value} {Q : Int × Int × Nat → Shared → Prop} (hs : s.heap.IsSliceOf sl .none .none vk) (pk : IsPart vk (some (-1))) (h : Q (1, -1, 2) s) :
    wpAny (model prog w) A (Builtin.Slice.sliceApplied (.ref sl) (pure (2 : Int))) Q E s := by
  obtain ⟨os, hos, hcs, hds⟩ := id hs
  unfold Builtin.Slice.sliceApplied Builtin.Slice.sliceFields
  refine wpAny_bind (wpAny_bind (wpAny_field hos hds (x := .none) rfl ?_))
  refine wpAny_bind (wpAny_field hos hds (x := .none) rfl ?_)
  refine wpAny_bind (wpAny_field hos hds (x := vk) rfl (wpAny_pure ?_))
  refine wpAny_bind (HT.slicePart_ pk ?_)
  show wpAny _ _ (if ((-1 : Int) == 0) = true then _ else _) _ _ s
  rw [if_neg (by decide)]
  refine wpAny_bind (HT.slicePart_ .none (wpAny_bind (HT.slicePart_ .none (wpAny_bind (wpAny_pure ?_)))))
  exact wpAny_pure h
theorem item_rev2 {t sl : Addr} {u v vk : Value} {Q : Value → Shared → Prop} (ht : IsTup s.heap t #[u, v]) (hs : s.heap.IsSliceOf sl .none .none vk) (pk : IsPart vk (some (-1)))
    (h : Q (.ref s.heap.objs.size) { s with heap := s.heap.push { cls := .type "tuple", data := .seq #[v, u] } }) : wpAny (model prog w) A (getItem (.ref t) (.ref sl)) Q E s := by
  obtain ⟨os, hos, hcs, hds⟩ := id hs
  have hTs : s.TypeIs (.ref sl) "slice" := ⟨os, hos, hcs⟩
  unfold getItem
  try with_reducible refine wpAny_holding ?_
  first | refine wpAny_bind (wpAny_pure ?_) | skip
  refine wpAny_bind (wpAny_sequenceKey ht.typeIs (by decide) ?_)
  refine wpAny_bind (wpAny_callSpecial?_slot (name := Str.ofString "__getitem__") ht.typeIs PyProof.Rows.slot_tuple_getitem (wpAny_call_entry PyProof.Rows.slot_tuple_getitem ht.typeIs entry_tuple_getitem ?_ (args_tuple_getitem _ _)))
  show wpAny _ _ (Builtin.Tuple.tupleItemsOf (.ref t) >>= _) _ _ s
  refine wpAny_bind (tupleItemsOf_ ht ?_)
  refine wpAny_bind (wpAny_typeOf hTs ?_)
  rw [if_pos (by decide)]
  refine wpAny_bind (applied_rev2 hs pk ?_)
  show wpAny _ _ (if ((1 : Int) == 0 && (-1 : Int) == 1 && (2 : Nat) == 2) = true then _ else _) _ _ s
  rw [if_neg (by decide)]
  have e : ((List.range 2).filterMap fun (k : Nat) => (#[u, v] : Array Value)[((1 : Int) + (k : Int) * -1).toNat]?).toArray = #[v, u] := rfl
  rw [e]
  have hz : sizeOk (.seq (#[v, u] : Array Value)) := by show 2 ≤ sizeLine; decide
  first
    | exact wpAny_bind (m := Builtin.Tuple.tupleExact _) (wpAny_newObj_type (wpAny_pure ⟨_, rfl, wpAny_pure h⟩) hz)
    | exact wpAny_bind (wpAny_bind (m := Builtin.Tuple.tupleExact _) (wpAny_newObj_type (wpAny_pure (wpAny_pure ⟨_, rfl, wpAny_pure h⟩)) hz))
    | exact wpAny_bind (wpAny_bind (m := Builtin.Tuple.tupleExact _) (wpAny_newObj_type (wpAny_pure ⟨_, rfl, wpAny_pure h⟩) hz))
    | exact wpAny_bind (m := Builtin.Tuple.tupleExact _) (wpAny_newObj_type (wpAny_bind (wpAny_pure (wpAny_pure ⟨_, rfl, wpAny_pure h⟩))) hz)
end
def tRev2 (K : PySem.W.Frag) (te : TE) : TE := fun σ H Q => te σ H fun x H1 => ∃ a y z, x = .ref a ∧ SqT K H1 a [y, z] ∧ ∀ p, H1 p = none → Q (.ref p) (upd H1 p (.tup [z, y]))
theorem pe_rev2 {X : Cx} {e : Expr} {te : TE} {k : Nat} {p1 p2 p3 pos : Pos} (he : PE X e te) : PE X (.Subscript e (.Slice none none (some (.UnaryOp .USub (.Constant (.int 1) k p1) p2)) p3) pos) (tRev2 X.K te) := by
  constructor
  intro pins s σ H Q I h
  refine Subscript_ (thn (he.run pins s σ H _ I h) fun v s1 r => ?_)
  obtain ⟨x, H1, I1, r1, a, y, z, ex, hx, q⟩ := r
  subst ex
  cases r1
  have hst : PO X (some (.UnaryOp .USub (.Constant (.int 1) k p1) p2)) (tPart (tUn (rU fun i => .int (-i)) (tC (.int 1)))) := po_some (pe_un un_neg pe_int)
  refine wpAny_Slice (thn (po_none.run pins s1 σ H1 (fun o H2 => o = none ∧ H2 = H1) I1 ⟨rfl, rfl⟩) fun vl s2 ⟨l, H2, I2, pl, el, e2⟩ => ?_)
  subst el e2
  refine thn (po_none.run pins s2 σ H2 (fun o H3 => o = none ∧ H3 = H2) I2 ⟨rfl, rfl⟩) fun vu s3 ⟨u, H3, I3, pu, eu, e3⟩ => ?_
  subst eu e3
  refine thn (hst.run pins s3 σ H3 (fun o H4 => o = some (-1) ∧ H4 = H3) I3 ⟨1, rfl, -1, rfl, rfl, rfl⟩) fun vs s4 ⟨o, H4, I4, ps, eo, e4⟩ => ?_
  subst eo e4
  cases pl
  cases pu
  have I5 : Inv X pins σ H4 { s4 with heap := s4.heap.push { cls := .type "slice", data := .fields #[.none, .none, vs] } } := I4.kept (t' := s4.toks) fun b ob q => Heap.get?_push_of_some _ q
  obtain ⟨its, r, ht, hz⟩ := I5.tuple hx
  obtain ⟨w1, w2, ei, r1, r2⟩ := vals2 r
  subst ei
  show wpAny (model X.prog X.w) X.A (subscriptTail e (.Slice none none (some (.UnaryOp .USub (.Constant (.int 1) k p1) p2)) p3) (.ref a) (.ref s4.heap.objs.size)) (EP X pins σ Q) X.xe _
  refine tail_any (ops := [.ref a, .ref s4.heap.objs.size]) ht.typeIs PyProof.Rows.slot_tuple_getitem.lookup ?_ (by with_unfolding_all rfl)
  refine item_rev2 ht (Heap.IsSliceOf.new _ .none .none vs) ps ?_
  refine ⟨.ref _, _, I5.laid (t' := s4.toks) (o := .tup [z, y]) (fun b ob q => Heap.get?_push_of_some _ q) (Nat.le_refl _) ?_, rfl, q _ (I5.hok.fresh (Nat.le_refl _))⟩
  exact ⟨by show 2 ≤ sizeLine; decide, [w2, w1], .cons r2 (.cons r1 .nil), IsTup.new _ _⟩
end Pc
namespace Pc
open PySem PySem.Spec PyProof.Rows L2 RZ
/-! ### defs that run where no repr is under way (repr asks for that) -/
structure FnG (P : Program) (w : World) (K : PySem.W.Frag) (mg : Str → Option Value) (base : Heap) (CX : CXT) (k : Nat) (f : Addr) (fd : FuncData) (ps : List Str) (sp : Sp) : Prop where
  len : ∀ vs H Q E, sp vs H Q E → vs.length = ps.length
  run : ∀ (A : Around) (outer : List PySem.Env) (s : Shared) (H : Hp) (args : Args) (us : List Value) (vs : List V) (Q : VK) (E : XK), Room k A → A.guards = some [] → Env0 P w K mg base A outer s H →
    BindsTo s fd args (ps.zip us) → Vals vs us → sp vs H Q E → codeAny (model P w) A (.call (.ref f) args) (CR CX outer P w H s Q E) s
section
variable {P : Program} {w : World} {K : PySem.W.Frag} {mg : Str → Option Value} {base : Heap}
theorem fun_g {x qual : Str} {st : Stmt} {f : Addr} {fd : FuncData} {N ps : List Str} {k : Nat} {sp : Sp} (F : Fun K x qual st f fd) (S : FnScope N ps (defScope st)) (len : ∀ vs H Q E, sp vs H Q E → vs.length = ps.length)
    (hbody : ∀ (cdv : Value) (A : Around) (outer : List PySem.Env) (s : Shared) (H : Hp) (vs : List V) (Q : VK) (E : XK), Room k (A.deeper (envOfC qual (defScope st) s.heap.objs.size f cdv)) → A.guards = some [] → sp vs H Q E →
      ∃ t, PSs (cxOf CX0 P w K mg base N qual (defScope st) f cdv A outer s H E).nox (defBody st) t ∧ t { nx := fun _ H' => Q .non H', rt := Q } (start N vs) H) : FnG P w K mg base CX0 (k + 1) f fd ps sp := by
  obtain ⟨oc, od, kV, doc, pm, an, cdv, ct, osl, rfl, lk, hcd⟩ := F.ex
  constructor
  · exact len
  intro A outer s H args us vs Q E hr hgd e0 hb r hsp
  have hl := len _ _ _ _ hsp
  have up : ∀ b o, base.get? b = some o → s.heap.get? b = some o := fun b o e => (e0.bs b o e).1
  have KX : K.In s.heap := e0.mod.kin.keeps up
  have lim : s.heap.NoLimit := e0.mod.nolimit.keeps up
  obtain ⟨t, ht, hq⟩ := hbody cdv A outer s H vs Q E (hr.deeper _) hgd hsp
  refine codeAny_call_function hr.depth (KX _ _ lk) rfl S.co S.gen rfl (PySem.W.codeRec_of KX hcd) (hb _ _ _ _ ?_)
  refine wpAny_newFunctionEnv_cells S.kind ?_ ?_
  · rintro ⟨n, v⟩ hy
    rcases S.par n (List.of_mem_zip hy).1 with z | z
    · exact Or.inl z
    · exact Or.inr ⟨z, PySem.W.cellsFrom_some _ _ _ (Or.inl z)⟩
  intro env he s1 x
  subst he
  refine ⟨lim.keeps x.toInCall.keep, codeAny_func ?_⟩
  have I := inv_start (CX := CX0) (E := E) S hr.hd e0 hl r x
  refine wpAny_mono (ht.nox.run [] s1 (start N vs) H _ I hq) ?_ (fun _ _ z => z)
  intro fl s' hs
  cases fl with
  | brk => obtain ⟨_, _, _, z⟩ := hs; exact z.elim
  | cont => obtain ⟨_, _, _, z⟩ := hs; exact z.elim
  | next =>
    obtain ⟨σ', H', J, z⟩ := hs
    exact ⟨V.non, H', J.os, J.bare, J.base, J.hok, rfl, z⟩
  | ret u =>
    obtain ⟨v, σ', H', J, rv, z⟩ := hs
    exact ⟨v, H', J.os, J.bare, J.base, J.hok, rv, z⟩
end
section
variable {X : Cx} {CX : CXT} {k : Nat} {f : Addr} {fd : FuncData} {ps : List Str} {sp : Sp} {x : Str} {e : Expr} {es : List Expr} {ds : List Value} {dvs : List V} {E : XK} {t : TA} {p pos : Pos}
theorem pe_callG (F : FnG X.prog X.w X.K X.mg X.base CX k f fd ps sp) (hr : Room k X.A) (hgd : X.A.guards = some []) (hg : Gl X x) (hm : X.mg x = some (.ref f)) (hk : PySem.W.keepIn X.K (.ref f) = true) (hb : Binds X.K fd ps ds) (hd : Vals dvs ds) (hx : Passes CX X E)
    (ha : PA X (e :: es) t) (hdb : (x == ("__debug__" : Str)) = false := by decide) (he : starEach (e :: es) X.env = (false, eval e X.env) :: starEach es X.env := by rfl) (hpl : (backTo pos (starEach es X.env)).any (·.1) = false := by rfl) :
    PE X (.Call (.Name x p) (e :: es) [] pos) (tCall sp dvs E t) := by
  constructor
  intro pins s σ H Q I h
  refine wpAny_Call_Name_kw (ld_glob I hg hm ?_ hdb)
  refine PySem.W.callWith_K (h₀ := X.base) I.ok.mod.kin hk (thn (ha.run pos pins s σ H _ I h) ?_) he hpl
  rintro us s1 ⟨vs, H1, I1, r, q⟩
  refine ⟨I1.kIn, ?_⟩
  have r2 : Vals (vs ++ dvs) (us ++ ds) := r.append hd
  have hl : (us ++ ds).length = ps.length := by
    rw [← r2.length]
    exact F.len _ _ _ _ q
  refine wpAny_call (codeAny_mono (F.run X.A X.stack s1 H1 ⟨us, []⟩ (us ++ ds) (vs ++ dvs) Q E hr hgd I1.env0 (hb s1 us I1.kIn hl) r2 q) ?_)
  intro res s' hq
  cases res with
  | error e => exact hx pins σ H1 s1 e s' I1 hq
  | ok fl =>
    cases fl with
    | ret u => exact I1.after hq
    | next => exact hq.elim
    | brk => exact hq.elim
    | cont => exact hq.elim
end
/-! ### the law's own call, where no repr is under way -/
theorem law_g {P : Program} {w : World} {K : PySem.W.Frag} {mg mb : Str → Option Value} {CX : CXT} {k : Nat} {fa a : Addr} {fd : FuncData} {x : Str} {sp : Sp} {s₁ : Shared} {vs : List Value} {ns : List Int}
    (KX : K.In s₁.heap) (hns : s₁.heap.Ns mainGlobals mg) (hb : s₁.heap.Ns builtinsNs mb) (hbb : ∀ x : Str, x ≠ "__name__" → mb x = bootBuiltins x) (hlim : s₁.heap.NoLimit) (hg : s₁.gens = #[])
    (ha : s₁.heap.get? a = some { cls := .type "list", data := .seq vs.toArray }) (hi : IntsAre vs ns) (hl : ns.length ≤ sizeLine) (hr : Room k callerA)
    (F : ∀ base : Heap, K.In base → base.Ns mainGlobals mg → FnG P w K mg base CX k fa fd [x] sp) (hbind : ∀ (s : Shared) (u : Value), BindsTo s fd ⟨[u], []⟩ [(x, u)])
    (hsp : ∀ H : Hp, SqL K H a (ns.map V.int) → sp [.ref a] H (fun v _ => v = .bl true) fun _ _ _ => False)
    (hCX : ∀ H e s', CX [] H s₁ (fun _ _ _ => False) e s' → False) :
    codeAny (model P w) callerA (.call (.ref fa) ⟨[.ref a], []⟩) (fun r s' => r = .ok (.ret (.bool true)) ∧ OldK s₁.heap s'.heap ∧ s'.os = s₁.os ∧ AllBare s'.gens) s₁ := by
  have rv := vals_ints hi
  have len0 := hi.length
  let lo : Obj := { cls := .type "list", data := .seq vs.toArray }
  have main : ∀ H : Hp, SqL K H a (ns.map V.int) → HOk P w H s₁.heap → (∀ b u, H b = some u → b = a ∧ u = .frz lo (.lst (ns.map V.int)) ∧ K.lookup a = none) →
      codeAny (model P w) callerA (.call (.ref fa) ⟨[.ref a], []⟩) (fun r s' => r = .ok (.ret (.bool true)) ∧ OldK s₁.heap s'.heap ∧ s'.os = s₁.os ∧ AllBare s'.gens) s₁ := by
    intro H hS hok hA
    have free : ∀ {b : Addr} {o : Obj}, s₁.heap.get? b = some o → (∀ n, o.data ≠ .seq vs.toArray n) → H b = none := by
      intro b o e d
      cases z : H b with
      | none => rfl
      | some u =>
        obtain ⟨rfl, _⟩ := hA b u z
        rw [ha] at e
        cases e
        exact absurd rfl (d _)
    have nsK : ∀ {b : Addr} {m : Str → Option Value}, s₁.heap.Ns b m → (hidT s₁.heap H).Ns b m := by
      rintro b m ⟨o, es, ep, e, d, r⟩
      exact ⟨o, es, ep, hidT_get e (free e fun n => by rw [d]; exact fun z => nomatch z), d, r⟩
    have hKb : K.In (hidT s₁.heap H) := by
      intro b o e
      refine hidT_get (KX b o e) ?_
      cases z : H b with
      | none => rfl
      | some u =>
        obtain ⟨rfl, _, hn⟩ := hA b u z
        rw [hn] at e
        cases e
    obtain ⟨mc, l1, l2⟩ := hlim
    have e0 : Env0 P w K mg (hidT s₁.heap H) callerA [] s₁ H :=
      { frames := rfl, mod := ⟨hKb, nsK hns, ⟨mb, nsK hb, hbb⟩, ⟨mc, nsK l1, l2⟩⟩, bs := fun b o e => of_hidT e, bsz := Nat.le_of_eq (hidT_size _ _), funs := trivial, frf := fun b hb => absurd (show b ∈ ([] : List Addr) from hb) (by simp), hok := hok, bare := .of_eq hg }
    have R := (F _ hKb (nsK hns)).run callerA [] s₁ H ⟨[.ref a], []⟩ [.ref a] [.ref a] _ _ hr rfl e0 (hbind s₁ (.ref a)) (.cons rfl .nil) (hsp H hS)
    refine codeAny_mono R ?_
    intro res s' h
    cases res with
    | error e => exact (hCX H e s' h).elim
    | ok fl =>
      cases fl with
      | next => exact h.elim
      | brk => exact h.elim
      | cont => exact h.elim
      | ret u =>
        obtain ⟨v, H', os, bare, un, hok', r', q⟩ := h
        have q' : v = .bl true := q
        subst q'
        obtain rfl : u = Value.bool true := r'
        refine ⟨rfl, OldK.of_keep ?_, os, bare⟩
        intro b o e
        cases z : H b with
        | none => exact un.keep b o e z (fun y => absurd (show b ∈ ([] : List Addr) from y) (by simp)) (by simp)
        | some u =>
          obtain ⟨rfl, rfl, _⟩ := hA b u z
          obtain ⟨g1, _⟩ := hok _ _ z
          obtain ⟨g2, _⟩ := hok' _ _ (un.frzs _ lo _ z)
          rw [e] at g1
          cases g1
          exact g2
  cases hk : K.lookup a with
  | some o =>
    have e := KX a o hk
    rw [ha] at e
    cases e
    refine main (fun _ => none) ?_ (fun b u z => nomatch z) (fun b u z => nomatch z)
    exact Or.inr ⟨_, vs.toArray, _, hk, rfl, rfl, rfl, by rw [List.size_toArray, len0]; exact hl, by simpa using rv⟩
  | none =>
    have sp1 : ∀ b u, (upd (fun _ => none) a (.frz lo (.lst (ns.map V.int)))) b = some u → b = a ∧ u = .frz lo (.lst (ns.map V.int)) ∧ K.lookup a = none := by
      intro b u z
      by_cases hba : b = a
      · subst hba
        rw [upd_same] at z
        exact ⟨rfl, (Option.some.inj z).symm, hk⟩
      · rw [upd_ne hba] at z
        cases z
    refine main (upd (fun _ => none) a (.frz lo (.lst (ns.map V.int)))) (Or.inl (Or.inr ⟨lo, upd_same⟩)) ?_ sp1
    intro b u z
    obtain ⟨rfl, rfl, _⟩ := sp1 b u z
    exact ⟨ha, by rw [List.length_map]; exact hl, vs, _, rv, ha⟩
theorem walk_g {l : PySem.W.OpenLaw} {n k : Nat} {q : Program} {loose : List Str} {XP : (Str → Option Value) → Heap → Prop} {YP : World → Heap → Prop} {d : DefRec} {K : Params → PySem.W.Frag} {sp : World → Sp} {x : Str}
    (hn : l.most = some n) (hn2 : n ≤ sizeLine) (hdf : d.params.defaults = []) (hr : Room k callerA) (hY : ∀ (w : World) (h : Heap), YP w h → (K w.params).In h)
    (F : ∀ (w : World) (mg : Str → Option Value) (fa : Addr) (h : Heap), (K w.params).In h → h.Ns mainGlobals mg → mg d.name = some (.ref fa) →
      ∃ fd : FuncData, (∀ (s : Shared) (u : Value), BindsTo s fd ⟨[u], []⟩ [(x, u)]) ∧ ∀ base : Heap, (K w.params).In base → base.Ns mainGlobals mg → FnG l.prog w (K w.params) mg base CX0 k fa fd [x] (sp w))
    (hsp : ∀ (w : World) (H : Hp) (a : Addr) (ns : List Int), ns.length ≤ n → SqL (K w.params) H a (ns.map V.int) → sp w [.ref a] H (fun v _ => v = .bl true) fun _ _ _ => False) :
    PySem.W.WalkO q loose XP YP l.row.toRowW d [] (fun f vs => PySem.call f vs) := by
  refine Att.attach_call hn hdf ?_
  intro w s₀ s₁ mg mb fa o pm cd doc a vs ns G Y ho hd hcd hmg hobj hints hlen hg
  obtain ⟨fd, hb, hF⟩ := F w mg fa _ (hY w _ Y) G.T.g hmg
  exact law_g (hY w _ Y) G.T.g G.T.b G.T.builtins G.T.nolimit hg hobj hints (Nat.le_trans hlen hn2) hr hF hb (fun H hS => hsp w H a ns hlen hS) fun _ _ _ z => z
/-! ### repr of data -/
theorem call_reprD {X : Cx} (hgd : X.A.guards = some []) (hu : X.A.units + 64 < cLine) : CallR X (.builtin "repr") (fun xs H Q => ∃ (a : Addr) (d : PyData), xs = [.ref a] ∧ Dp X.K H (.ref a) d ∧ d.canLay0 = true ∧ d.showable = true ∧ d.depth ≤ 60 ∧ d.shown.length ≤ sizeLine ∧ Q (.str d.shown) H) := by
  intro pins s σ H xs us Q I r h
  obtain ⟨a, d, rfl, hd, hl, hs, hdp, hz, q⟩ := h
  obtain ⟨u, rfl, ru⟩ := vals1 r
  cases ru
  obtain ⟨as, rd⟩ := Dp.reads I d (.ref a) (.ref a) hd rfl
  refine repr_of_reads' rd hs (PyData.noDict_hsm (PyData.hasDict_of_canLay d hl)) hgd (by omega) (fun _ _ e => e) ?_ hz
  intro h' u tk hk
  exact ⟨.str d.shown, H, I.kept (t' := tk) hk, ⟨u, rfl⟩, q⟩
end Pc
namespace Pc
open PySem PySem.Spec PyProof.Rows L2 RZ
/-! ### data of small size: its depth is at most k, its text has at most m signs -/
structure Fine (k m : Nat) (d : PyData) : Prop where
  lay : d.canLay0 = true
  show_ : d.showable = true
  depth : d.depth ≤ k
  nar : narrow d
  len : d.shown.length ≤ m
theorem Fine.mono {k m k' m' : Nat} {d : PyData} (h : Fine k m d) (hk : k ≤ k') (hm : m ≤ m') : Fine k' m' d := ⟨h.lay, h.show_, Nat.le_trans h.depth hk, h.nar, Nat.le_trans h.len hm⟩
theorem Fine.shaped {k m : Nat} {d : PyData} (h : Fine k m d) (hk : k ≤ 64) : SeqAt.shaped d = true := by
  unfold SeqAt.shaped
  rw [Bool.and_eq_true]
  exact ⟨h.lay, decide_eq_true (Nat.le_trans h.depth hk)⟩
theorem str_len (t : String) : (Str.ofString t).length = t.length := by
  rw [Str.ofString_eq_toList]
  show (t.toList.map Char.toNat).toArray.size = t.length
  rw [List.size_toArray, List.length_map, String.length_toList]
theorem log_lt {i : Int} {k : Nat} (h : i.natAbs < 2 ^ k) (hk : 0 < k) : i.natAbs.log2 < k := by
  by_cases h0 : i.natAbs = 0
  · rw [h0]; exact hk
  · exact (Nat.log2_lt h0).mpr h
theorem fine_int {i : Int} (h : i.natAbs < 2 ^ 60) : Fine 0 61 (.int i) := by
  have hl := log_lt h (by decide)
  refine ⟨rfl, decide_eq_true (Nat.lt_of_lt_of_le hl (by decide)), Nat.le_refl _, trivial, ?_⟩
  show (Str.ofString (toString i)).length ≤ 61
  rw [str_len]
  exact int_text_length_le (by decide) hl
theorem fine_nat {i : Nat} (h : i < 2 ^ 60) : Fine 0 61 (.int (i : Int)) := fine_int (by rw [Int.natAbs_natCast]; exact h)
theorem all_lay {ds : List PyData} (h : ∀ d ∈ ds, d.canLay0 = true) : PyData.canLayAll0 ds = true := by
  induction ds with
  | nil => rfl
  | cons d r ih =>
    show (d.canLay0 && PyData.canLayAll0 r) = true
    rw [h d List.mem_cons_self, ih fun x hx => h x (List.mem_cons_of_mem _ hx)]; rfl
theorem all_showable {ds : List PyData} (h : ∀ d ∈ ds, d.showable = true) : PyData.showableAll ds = true := by
  induction ds with
  | nil => rfl
  | cons d r ih =>
    show (d.showable && PyData.showableAll r) = true
    rw [h d List.mem_cons_self, ih fun x hx => h x (List.mem_cons_of_mem _ hx)]; rfl
theorem all_depth {ds : List PyData} {k : Nat} (h : ∀ d ∈ ds, d.depth ≤ k) : PyData.depthAll ds ≤ k := by
  induction ds with
  | nil => exact Nat.zero_le _
  | cons d r ih => exact Nat.max_le.mpr ⟨h d List.mem_cons_self, ih fun x hx => h x (List.mem_cons_of_mem _ hx)⟩
theorem all_shown {ds : List PyData} {m : Nat} (h : ∀ d ∈ ds, d.shown.length ≤ m) : ((PyData.shownAll ds).map (·.length)).sum ≤ ds.length * m ∧ (PyData.shownAll ds).length = ds.length := by
  induction ds with
  | nil => exact ⟨Nat.zero_le _, rfl⟩
  | cons d r ih =>
    obtain ⟨h1, h2⟩ := ih fun x hx => h x (List.mem_cons_of_mem _ hx)
    have h3 := h d List.mem_cons_self
    refine ⟨?_, congrArg (· + 1) h2⟩
    show ((d.shown :: PyData.shownAll r).map (·.length)).sum ≤ (r.length + 1) * m
    rw [List.map_cons, List.sum_cons, Nat.add_mul, Nat.one_mul]
    omega
theorem fine_list {ds : List PyData} {k m n : Nat} (h : ∀ d ∈ ds, Fine k m d) (hn : ds.length ≤ n) (hb : n ≤ 100000) : Fine (k + 1) (n * (m + 2) + 3) (.list ds) := by
  refine ⟨all_lay fun d hd => (h d hd).lay, all_showable fun d hd => (h d hd).show_, Nat.succ_le_succ (all_depth fun d hd => (h d hd).depth), ⟨Nat.le_trans hn hb, narrow_of fun d hd => (h d hd).nar⟩, ?_⟩
  obtain ⟨h1, h2⟩ := all_shown fun d hd => (h d hd).len
  have h3 := listText_len_le (PyData.shownAll ds)
  have h4 : ds.length * m ≤ n * m := Nat.mul_le_mul_right _ hn
  show (listText (PyData.shownAll ds)).length ≤ _
  rw [Nat.mul_add]
  omega
theorem fine_tuple {ds : List PyData} {k m n : Nat} (h : ∀ d ∈ ds, Fine k m d) (hn : ds.length ≤ n) (hb : n ≤ 100000) : Fine (k + 1) (n * (m + 2) + 3) (.tuple ds) := by
  refine ⟨all_lay fun d hd => (h d hd).lay, all_showable fun d hd => (h d hd).show_, Nat.succ_le_succ (all_depth fun d hd => (h d hd).depth), ⟨Nat.le_trans hn hb, narrow_of fun d hd => (h d hd).nar⟩, ?_⟩
  obtain ⟨h1, h2⟩ := all_shown fun d hd => (h d hd).len
  have h3 := tupleText_len_le (PyData.shownAll ds)
  have h4 : ds.length * m ≤ n * m := Nat.mul_le_mul_right _ hn
  show (tupleText (PyData.shownAll ds)).length ≤ _
  rw [Nat.mul_add]
  omega
/-- numbers as data -/
def nd (l : List Nat) : List PyData := l.map fun (i : Nat) => PyData.int (i : Int)
theorem nd_length (l : List Nat) : (nd l).length = l.length := List.length_map _
theorem dp_nats {K : PySem.W.Frag} {H : Hp} : ∀ l : List Nat, DpAll K H (nv l) (nd l)
  | [] => .nil
  | i :: r => .cons (.int i) (dp_nats r)
theorem fine_nd {l : List Nat} (h : ∀ i ∈ l, i < 2 ^ 60) : ∀ d ∈ nd l, Fine 0 61 d := fun d hd => by
  obtain ⟨i, hi, rfl⟩ := List.mem_map.mp hd
  exact fine_nat (h i hi)
/-- a tuple of numbers -/
theorem fine_tup {l : List Nat} {n : Nat} (h : ∀ i ∈ l, i < 2 ^ 60) (hn : l.length ≤ n) (hb : n ≤ 100000) : Fine 1 (n * 63 + 3) (.tuple (nd l)) := fine_tuple (fine_nd h) (by rw [nd_length]; exact hn) hb
/-! ### lists of pairs of numbers -/
/-- at the places as stand the pairs ps -/
def Prs (H : Hp) (as : List Addr) (ps : List (Nat × Nat)) : Prop := Paired (fun a (p : Nat × Nat) => H a = some (.tup [.int p.1, .int p.2])) as ps
theorem Prs.length {H : Hp} {as : List Addr} {ps : List (Nat × Nat)} (h : Prs H as ps) : as.length = ps.length := Paired.length h
theorem prs_same {H H' : Hp} (e : Same H H') : ∀ {as : List Addr} {ps : List (Nat × Nat)}, Prs H as ps → Prs H' as ps
  | _, _, .nil => .nil
  | _, _, .cons h r => .cons (e _ _ h) (prs_same e r)
theorem prs_keep {b : Addr} {H H' : Hp} {ys : List V} (k : Keep b H H') (hb : H b = some (.lst ys)) : ∀ {as : List Addr} {ps : List (Nat × Nat)}, Prs H as ps → Prs H' as ps
  | _, _, .nil => .nil
  | _, _, .cons h r => .cons (k.tup hb h) (prs_keep k hb r)
theorem prs_get {H : Hp} : ∀ {as : List Addr} {ps : List (Nat × Nat)} {i : Nat} {a : Addr}, Prs H as ps → as[i]? = some a → ∃ p, ps[i]? = some p ∧ H a = some (.tup [.int p.1, .int p.2])
  | _, _, _, _, .nil, h => by simp at h
  | _, _, 0, _, .cons (b := p) h _, e => by
    cases Option.some.inj e
    exact ⟨p, rfl, h⟩
  | _, _, i + 1, a, .cons _ r, e => prs_get (i := i) r e
theorem prs_append {H : Hp} : ∀ {as bs : List Addr} {ps qs : List (Nat × Nat)}, Prs H as ps → Prs H bs qs → Prs H (as ++ bs) (ps ++ qs)
  | _, _, _, _, .nil, s => s
  | _, _, _, _, .cons h r, s => .cons h (prs_append r s)
def pd (p : Nat × Nat) : PyData := .tuple [.int (p.1 : Int), .int (p.2 : Int)]
theorem prs_dp {K : PySem.W.Frag} {H : Hp} : ∀ {as : List Addr} {ps : List (Nat × Nat)}, Prs H as ps → DpAll K H (as.map V.ref) (ps.map pd)
  | _, _, .nil => .nil
  | _, _, .cons h r => .cons (.tup (.inl (.inl h)) (.cons (.int _) (.cons (.int _) .nil))) (prs_dp r)
theorem fine_pd {p : Nat × Nat} (h1 : p.1 < 2 ^ 60) (h2 : p.2 < 2 ^ 60) : Fine 1 129 (pd p) := fine_tuple (n := 2) (fun d hd => by
  rcases List.mem_cons.mp hd with z | z
  · rw [z]; exact fine_nat h1
  · rw [List.mem_singleton.mp z]; exact fine_nat h2) (Nat.le_refl _) (by decide)
/-- a list of pairs -/
theorem fine_pds {ps : List (Nat × Nat)} {n : Nat} (h : ∀ p ∈ ps, p.1 < 2 ^ 60 ∧ p.2 < 2 ^ 60) (hn : ps.length ≤ n) (hb : n ≤ 100000) : Fine 2 (n * 131 + 3) (.list (ps.map pd)) :=
  fine_list (fun d hd => by
    obtain ⟨p, hp, rfl⟩ := List.mem_map.mp hd
    exact fine_pd (h p hp).1 (h p hp).2) (by rw [List.length_map]; exact hn) hb
end Pc
namespace Pc
open PySem PySem.Spec PyProof.Rows L2 RZ
/-! ### a list or a tuple: walked, unpacked -/
/-- a list or a tuple is read -/
def Sq (K : PySem.W.Frag) (H : Hp) (a : Addr) (xs : List V) : Prop := SqL K H a xs ∨ SqT K H a xs
theorem Sq.same {K : PySem.W.Frag} {H H' : Hp} {a : Addr} {xs : List V} (h : Sq K H a xs) (e : Same H H') : Sq K H' a xs := h.imp (fun z => e.seq z) (fun z => same_tup e z)
def iSeq (K : PySem.W.Frag) (tl : TE) : TI := fun σ H R => tl σ H fun x H1 => ∃ a, x = .ref a ∧ (((∃ xs, SqL K H1 a xs) ∧ R (Itl K a) H1) ∨ ((∃ xs, SqT K H1 a xs) ∧ R (Itt K a) H1))
section
variable {X : Cx}
theorem pi_seq {tg l : Expr} {tl : TE} (hl : PE X l tl) : PI X tg l (iSeq X.K tl) := by
  constructor
  intro pins s σ H R I h
  refine thn (hl.run pins s σ H _ I h) ?_
  rintro v s1 ⟨x, H1, I1, r1, a, ex, q⟩
  subst ex
  cases r1
  rcases q with ⟨⟨xs, hx⟩, q⟩ | ⟨⟨xs, hx⟩, q⟩
  · obtain ⟨its, _, p, _⟩ := I1.list hx
    refine wpAny_pyIter_list p.isList ?_
    exact pi_one (tk := s1.toks) I1 _ (turn_list _ _) ⟨_, Heap.get?_push_size _ rfl, rfl, rfl⟩ q
  · obtain ⟨its, _, p, _⟩ := I1.tuple hx
    refine wpAny_pyIter_tuple p ?_
    exact pi_one (tk := s1.toks) I1 _ (turn_tuple _ _) ⟨_, Heap.get?_push_size _ rfl, rfl, rfl⟩ q
/-- names unpacked from a tuple or a list -/
def gSeq (K : PySem.W.Frag) (n : Nat) (t : TGs) : TG := fun v σ H Q => ∃ a xs, v = .ref a ∧ Sq K H a xs ∧ xs.length = n ∧ t xs σ H Q
theorem pg_seq {es : List Expr} {k : Nat} {t : TGs} {n : Nat} {pos : Pos} (hc : X.calm = true) (h : PGs X es t)
    (hn : (assignEach es X.env).length = n := by rfl) (hst : (assignEach es X.env).findIdx? (·.1) = none := by rfl) : PG X (.Tuple es k pos) (gSeq X.K n t) := by
  constructor
  intro pins s σ H v u Q I r hw
  obtain ⟨a, xs, e, hq, hl, hw⟩ := hw
  rcases hq with hq | hq
  · exact (pg_unl (pos := pos) (k := k) hc h hn hst).run pins s σ H v u Q I r ⟨a, xs, e, hq, hl, hw⟩
  · exact (pg_tup (pos := pos) (k := k) hc h hn hst).run pins s σ H v u Q I r ⟨a, xs, e, hq, hl, hw⟩
/-! ### a call with keywords alone -/
def tKw (n : Nat) (sp : Sp) (gV : List V → List V) (E : XK) (tk : TA) : TE := fun σ H Q => tk σ H fun zs H1 => zs.length = n ∧ sp (gV zs) H1 Q E
theorem pe_kw {CX : CXT} {k : Nat} {f : Addr} {fd : FuncData} {ps ks : List Str} {sp : Sp} {E : XK} {x : Str} {p pos : Pos} {kws : List Keyword} {tk : TA} {g : List Value → List Value} {gV : List V → List V}
    (F : FnOk X.prog X.w X.K X.mg X.base CX k f fd ps sp) (hr : Room k X.A) (hg : Gl X x) (hm : X.mg x = some (.ref f)) (hk : PySem.W.keepIn X.K (.ref f) = true)
    (hb : ∀ (s : Shared) (ws : List Value), ws.length = ks.length → BindsTo s fd ⟨[], ks.zip ws⟩ (ps.zip (g ws))) (rel : ∀ {zs : List V} {ws : List Value}, zs.length = ks.length → Vals zs ws → Vals (gV zs) (g ws)) (hx : Passes CX X E) (hkw : PK X kws tk)
    (hall : (backToKw pos (keywordEach kws X.env)).all (·.1.isSome) = true := by rfl) (hks : (backToKw pos (keywordEach kws X.env)).filterMap (·.1) = ks := by rfl) (hdb : (x == ("__debug__" : Str)) = false := by decide)
    (hpl : ((backTo pos (starEach [] X.env)).any (·.1) || (backToKw pos (keywordEach kws X.env)).any (·.1.isNone)) = false := by rfl) :
    PE X (.Call (.Name x p) [] kws pos) (tKw ks.length sp gV E tk) := by
  constructor
  intro pins s σ H Q I h
  refine wpAny_Call_Name_kw (ld_glob I hg hm ?_ hdb)
  refine PySem.W.callWith_KW0 (h₀ := X.base) I.ok.mod.kin hk hall (thn (hkw.run pos pins s σ H _ I h) ?_) hpl
  rintro ws s2 ⟨zs, H2, I2, rz, hz, q⟩
  refine ⟨I2.kIn, ?_⟩
  rw [hks]
  refine wpAny_call (codeAny_mono (F.run X.A X.stack s2 H2 ⟨[], ks.zip ws⟩ (g ws) (gV zs) Q E hr I2.env0 (hb s2 ws (by rw [← rz.length, hz])) (rel hz rz) q) ?_)
  intro res s' hq
  cases res with
  | error e => exact hx pins σ H2 s2 e s' I2 hq
  | ok fl =>
    cases fl with
    | ret u => exact I2.after hq
    | next => exact hq.elim
    | brk => exact hq.elim
    | cont => exact hq.elim
end
theorem kw_to {K : PySem.W.Frag} {x qual : Str} {st : Stmt} {f : Addr} {fd : FuncData} {ps ks : List Str} {g : List Value → List Value} (F : Fun K x qual st f fd)
    (h : ∀ (kV doc pm : Value) (an : Option Addr) (cdv ct : Value) (ws : List Value), ws.length = ks.length → bindArgs (PySem.W.fnOf x qual (defArgs st) (defBody st) (defScope st) .none kV doc pm an cdv ct) ⟨[], ks.zip ws⟩ = pure (ps.zip (g ws))) :
    ∀ (s : Shared) (ws : List Value), ws.length = ks.length → BindsTo s fd ⟨[], ks.zip ws⟩ (ps.zip (g ws)) := by
  obtain ⟨oc, od, kV, doc, pm, an, cdv, ct, osl, rfl, lk, hcd⟩ := F.ex
  intro s ws hl
  exact .of_eq (h kV doc pm an cdv ct ws hl)
end Pc
namespace Pc
open PySem PySem.Spec PyProof.Rows L2 RZ
/-! ### the couples of a pairing -/
/-- the couples whose first person is below i -/
def cplN (ps : List Nat) (i : Nat) : List (Nat × Nat) := ((List.range i).filter fun x => decide (x < ps.getD x 0)).map fun x => (x, ps.getD x 0)
def cpl (ps : List Nat) : List (Nat × Nat) := cplN ps ps.length
theorem getD_of {ps : List Nat} {x y : Nat} (h : ps[x]? = some y) : ps.getD x 0 = y := by
  rw [List.getD_eq_getElem?_getD, h]; rfl
theorem cplN_yes {ps : List Nat} {i y : Nat} (h : ps[i]? = some y) (hl : i < y) : cplN ps (i + 1) = cplN ps i ++ [(i, y)] := by
  unfold cplN
  rw [List.range_succ, List.filter_append, List.map_append]
  congr 1
  rw [List.filter_cons_of_pos (by rw [getD_of h]; exact decide_eq_true hl), List.filter_nil, List.map_cons, List.map_nil, getD_of h]
theorem cplN_no {ps : List Nat} {i y : Nat} (h : ps[i]? = some y) (hl : ¬ i < y) : cplN ps (i + 1) = cplN ps i := by
  unfold cplN
  rw [List.range_succ, List.filter_append, List.map_append, List.filter_cons_of_neg (by rw [getD_of h]; simpa using hl), List.filter_nil, List.map_nil, List.append_nil]
theorem cplN_len (ps : List Nat) (i : Nat) : (cplN ps i).length ≤ i := by
  unfold cplN
  rw [List.length_map]
  exact Nat.le_trans (List.length_filter_le _ _) (by rw [List.length_range]; exact Nat.le_refl _)
theorem mem_cpl {n : Nat} {ps : List Nat} (h : IsPair n ps) {p : Nat × Nat} : p ∈ cpl ps ↔ ps[p.1]? = some p.2 ∧ p.1 < p.2 := by
  unfold cpl cplN
  rw [h.len]
  constructor
  · intro hp
    obtain ⟨x, hx, rfl⟩ := List.mem_map.mp hp
    obtain ⟨h1, h2⟩ := List.mem_filter.mp hx
    obtain ⟨y, e, _⟩ := h.par x (List.mem_range.mp h1)
    rw [getD_of e] at h2 ⊢
    exact ⟨e, of_decide_eq_true h2⟩
  · rintro ⟨e, hl⟩
    refine List.mem_map.mpr ⟨p.1, List.mem_filter.mpr ⟨List.mem_range.mpr ?_, ?_⟩, ?_⟩
    · rw [← h.len]; exact get_lt e
    · rw [getD_of e]; exact decide_eq_true hl
    · rw [getD_of e]
theorem IsPair.back {n : Nat} {ps : List Nat} (h : IsPair n ps) {x y : Nat} (e : ps[x]? = some y) : ps[y]? = some x ∧ y < n ∧ x < n ∧ y ≠ x := by
  have hx : x < n := by rw [← h.len]; exact get_lt e
  obtain ⟨z, e1, e2, e3, e4⟩ := h.par x hx
  cases Option.some.inj (e.symm.trans e1)
  exact ⟨e4, e2, hx, e3⟩
theorem cpl_cover {n : Nat} {ps : List Nat} (h : IsPair n ps) {z : Nat} (hz : z < n) : ∃ p ∈ cpl ps, p.1 = z ∨ p.2 = z := by
  obtain ⟨y, e1, e2, e3, e4⟩ := h.par z hz
  rcases Nat.lt_or_gt_of_ne e3 with l | l
  · exact ⟨(y, z), (mem_cpl h).mpr ⟨e4, l⟩, .inr rfl⟩
  · exact ⟨(z, y), (mem_cpl h).mpr ⟨e1, l⟩, .inl rfl⟩
theorem filter_split {α : Type} (f : α → Bool) : ∀ l : List α, (l.filter f).length + (l.filter fun x => !f x).length = l.length
  | [] => rfl
  | a :: r => by
    have ih := filter_split f r
    cases e : f a with
    | true => rw [List.filter_cons_of_pos e, List.filter_cons_of_neg (by rw [e]; decide), List.length_cons, List.length_cons]; omega
    | false => rw [List.filter_cons_of_neg (by rw [e]; decide), List.filter_cons_of_pos (by rw [e]; rfl), List.length_cons, List.length_cons]; omega
theorem cpl_half {n : Nat} {ps : List Nat} (h : IsPair n ps) : 2 * (cpl ps).length = n := by
  have e1 : (cpl ps).length = ((List.range n).filter fun x => decide (x < ps.getD x 0)).length := by
    unfold cpl cplN; rw [List.length_map, h.len]
  have inj : ∀ x y, x < n → y < n → ps.getD x 0 = ps.getD y 0 → x = y := fun x y hx hy e => by
    obtain ⟨u, a1, _, _, a4⟩ := h.par x hx
    obtain ⟨v, b1, _, _, b4⟩ := h.par y hy
    rw [getD_of a1, getD_of b1] at e
    subst e
    exact Option.some.inj (a4.symm.trans b4)
  have nd0 : (List.range n).Nodup := List.nodup_range
  have p1 : (((List.range n).filter fun x => decide (x < ps.getD x 0)).map fun x => ps.getD x 0).Perm ((List.range n).filter fun x => !decide (x < ps.getD x 0)) := by
    refine (List.perm_ext_iff_of_nodup ?_ (nd0.filter _)).mpr fun z => ?_
    · refine List.Pairwise.map _ (fun a b hab => hab) ?_
      refine List.Pairwise.imp_of_mem (fun {a b} ha hb hab => ?_) (nd0.filter fun x => decide (x < ps.getD x 0))
      exact fun e => hab (inj a b (List.mem_range.mp (List.mem_filter.mp ha).1) (List.mem_range.mp (List.mem_filter.mp hb).1) e)
    · constructor
      · intro hz
        obtain ⟨x, hx, rfl⟩ := List.mem_map.mp hz
        obtain ⟨h1, h2⟩ := List.mem_filter.mp hx
        obtain ⟨y, a1, a2, a3, a4⟩ := h.par x (List.mem_range.mp h1)
        rw [getD_of a1] at h2 ⊢
        have h3 := of_decide_eq_true h2
        refine List.mem_filter.mpr ⟨List.mem_range.mpr a2, ?_⟩
        rw [getD_of a4, decide_eq_false (by omega)]; rfl
      · intro hz
        obtain ⟨h1, h2⟩ := List.mem_filter.mp hz
        obtain ⟨y, a1, a2, a3, a4⟩ := h.par z (List.mem_range.mp h1)
        rw [getD_of a1] at h2
        have h3 : ¬ z < y := by simpa using h2
        refine List.mem_map.mpr ⟨y, List.mem_filter.mpr ⟨List.mem_range.mpr a2, ?_⟩, getD_of a4⟩
        rw [getD_of a4]
        exact decide_eq_true (by omega)
  have e2 := p1.length_eq
  rw [List.length_map] at e2
  have e3 := filter_split (fun x => decide (x < ps.getD x 0)) (List.range n)
  rw [List.length_range] at e3
  omega
/-- what pairs must be so that they make the pairing ps -/
structure Makes (qs : List (Nat × Nat)) (ps : List Nat) : Prop where
  half : 2 * qs.length = ps.length
  ok : ∀ p ∈ qs, ps[p.1]? = some p.2 ∧ ps[p.2]? = some p.1
  all : ∀ z, z < ps.length → ∃ p ∈ qs, p.1 = z ∨ p.2 = z
theorem makes_cpl {n : Nat} {ps : List Nat} (h : IsPair n ps) : Makes (cpl ps) ps where
  half := by rw [cpl_half h, h.len]
  ok p hp := by
    obtain ⟨e, _⟩ := (mem_cpl h).mp hp
    exact ⟨e, (h.back e).1⟩
  all z hz := cpl_cover h (by rw [← h.len]; exact hz)
/-- the pairs of qs in any order, turned or not -/
theorem Makes.turned {qs rs : List (Nat × Nat)} {ps : List Nat} (h : Makes qs ps) (hl : rs.length = qs.length) (h1 : ∀ p ∈ rs, p ∈ qs ∨ (p.2, p.1) ∈ qs) (h2 : ∀ p ∈ qs, p ∈ rs ∨ (p.2, p.1) ∈ rs) : Makes rs ps where
  half := by rw [hl]; exact h.half
  ok p hp := by
    rcases h1 p hp with z | z
    · exact h.ok p z
    · obtain ⟨a, b⟩ := h.ok _ z
      exact ⟨b, a⟩
  all z hz := by
    obtain ⟨p, hp, e⟩ := h.all z hz
    rcases h2 p hp with q | q
    · exact ⟨p, q, e⟩
    · exact ⟨_, q, e.symm⟩
def CInv (ps : List Nat) (qs : List (Nat × Nat)) (fs : List Nat) (i : Nat) : Prop := fs.length = ps.length ∧ ∀ j, j < i → ∀ p, qs[j]? = some p → fs[p.1]? = ps[p.1]? ∧ fs[p.2]? = ps[p.2]?
theorem set_keeps {ps fs : List Nat} {x y z : Nat} (hy : ps[x]? = some y) (hx : x < fs.length) (h : fs[z]? = ps[z]?) : (fs.set x y)[z]? = ps[z]? := by
  by_cases e : x = z
  · subst e
    rw [List.getElem?_set_self hx, hy]
  · rw [List.getElem?_set_ne e]; exact h
theorem CInv.step {ps fs : List Nat} {qs : List (Nat × Nat)} {i : Nat} {p : Nat × Nat} (m : Makes qs ps) (h : CInv ps qs fs i) (hp : qs[i]? = some p) : CInv ps qs ((fs.set p.1 p.2).set p.2 p.1) (i + 1) := by
  obtain ⟨hl, hj⟩ := h
  obtain ⟨o1, o2⟩ := m.ok p (List.mem_of_getElem? hp)
  have l1 : p.1 < fs.length := by rw [hl]; exact get_lt o1
  have l2 : p.2 < (fs.set p.1 p.2).length := by rw [List.length_set, hl]; exact get_lt o2
  refine ⟨by rw [List.length_set, List.length_set, hl], fun j hj2 r hr => ?_⟩
  by_cases e : j = i
  · subst e
    cases Option.some.inj (hp.symm.trans hr)
    refine ⟨set_keeps o2 l2 ?_, ?_⟩
    · rw [List.getElem?_set_self l1, o1]
    · rw [List.getElem?_set_self l2, o2]
  · obtain ⟨a, b⟩ := hj j (by omega) r hr
    exact ⟨set_keeps o2 l2 (set_keeps o1 l1 a), set_keeps o2 l2 (set_keeps o1 l1 b)⟩
theorem CInv.done {ps fs : List Nat} {qs : List (Nat × Nat)} (m : Makes qs ps) (h : CInv ps qs fs qs.length) : fs = ps := by
  refine List.ext_getElem? fun z => ?_
  by_cases hz : z < ps.length
  · obtain ⟨p, hp, e⟩ := m.all z hz
    obtain ⟨i, hi, ei⟩ := List.mem_iff_getElem.mp hp
    obtain ⟨a, b⟩ := h.2 i hi p (by rw [List.getElem?_eq_getElem hi, ei])
    rcases e with e | e
    · rw [← e]; exact a
    · rw [← e]; exact b
  · rw [List.getElem?_eq_none (by rw [h.1]; omega), List.getElem?_eq_none (by omega)]
end Pc
namespace Pc
open PySem PySem.Spec PyProof.Rows L2 RZ
section
variable {K : PySem.W.Frag}
/-- the values us are the pairs qs, each a tuple or a list -/
def Items (K : PySem.W.Frag) (H : Hp) (us : List V) (qs : List (Nat × Nat)) : Prop := us.length = qs.length ∧ ∀ (i : Nat) (v : V), us[i]? = some v → ∃ (c : Addr) (p : Nat × Nat), v = .ref c ∧ qs[i]? = some p ∧ Sq K H c [.int p.1, .int p.2]
theorem Items.same {H H' : Hp} {us : List V} {qs : List (Nat × Nat)} (h : Items K H us qs) (e : Same H H') : Items K H' us qs := ⟨h.1, fun i v hv => by
  obtain ⟨c, p, h1, h2, h3⟩ := h.2 i v hv
  exact ⟨c, p, h1, h2, h3.same e⟩⟩
theorem items_of {H : Hp} {as : List Addr} {qs : List (Nat × Nat)} (h : Prs H as qs) : Items K H (as.map V.ref) qs := ⟨by rw [List.length_map]; exact h.length, fun i v hv => by
  rw [List.getElem?_map] at hv
  cases e : as[i]? with
  | none => rw [e] at hv; cases hv
  | some c =>
    rw [e] at hv
    obtain ⟨p, h1, h2⟩ := prs_get h e
    exact ⟨c, p, (Option.some.inj hv).symm, h1, .inr (.inl (.inl h2))⟩⟩
end
end Pc
namespace Pc
open PySem PySem.Spec PyProof.Rows L2 RZ
theorem paired_perm {α β : Type} {R : α → β → Prop} {as bs : List α} (h : as.Perm bs) : ∀ ps : List β, Paired R as ps → ∃ qs : List β, qs.Perm ps ∧ Paired R bs qs := by
  induction h with
  | nil => exact fun ps h => ⟨ps, List.Perm.refl _, h⟩
  | cons x _ ih =>
    intro ps h
    cases h with
    | cons r t =>
      obtain ⟨qs, h1, h2⟩ := ih _ t
      exact ⟨_ :: qs, h1.cons _, .cons r h2⟩
  | swap x y l =>
    intro ps h
    cases h with
    | cons r t =>
      cases t with
      | cons r2 t2 => exact ⟨_, List.Perm.swap _ _ _, .cons r2 (.cons r t2)⟩
  | trans _ _ ih1 ih2 =>
    intro ps h
    obtain ⟨qs, h1, h2⟩ := ih1 ps h
    obtain ⟨rs, h3, h4⟩ := ih2 qs h2
    exact ⟨rs, h3.trans h1, h4⟩
/-- the same pairs, some turned -/
def Turned (qs rs : List (Nat × Nat)) : Prop := rs.length = qs.length ∧ ∀ (j : Nat) (p q : Nat × Nat), qs[j]? = some p → rs[j]? = some q → q = p ∨ q = (p.2, p.1)
theorem Turned.mem1 {qs rs : List (Nat × Nat)} (h : Turned qs rs) : ∀ p ∈ rs, p ∈ qs ∨ (p.2, p.1) ∈ qs := fun p hp => by
  obtain ⟨j, hj, e⟩ := List.mem_iff_getElem.mp hp
  obtain ⟨q, hq⟩ := get_some (l := qs) (i := j) (by rw [← h.1]; exact hj)
  rcases h.2 j q p hq (by rw [List.getElem?_eq_getElem hj, e]) with z | z
  · exact .inl (z ▸ List.mem_of_getElem? hq)
  · refine .inr ?_
    rw [z]
    exact List.mem_of_getElem? hq
theorem Turned.mem2 {qs rs : List (Nat × Nat)} (h : Turned qs rs) : ∀ p ∈ qs, p ∈ rs ∨ (p.2, p.1) ∈ rs := fun p hp => by
  obtain ⟨j, hj, e⟩ := List.mem_iff_getElem.mp hp
  obtain ⟨q, hq⟩ := get_some (l := rs) (i := j) (by rw [h.1]; exact hj)
  rcases h.2 j p q (by rw [List.getElem?_eq_getElem hj, e]) hq with z | z
  · exact .inl (z ▸ List.mem_of_getElem? hq)
  · exact .inr (z ▸ List.mem_of_getElem? hq)
theorem Makes.perm {qs rs : List (Nat × Nat)} {ps : List Nat} (h : Makes qs ps) (e : rs.Perm qs) : Makes rs ps := h.turned e.length_eq (fun p hp => .inl (e.mem_iff.mp hp)) (fun p hp => .inl (e.mem_iff.mpr hp))
theorem IsPair.lt {n : Nat} {ps : List Nat} (h : IsPair n ps) : ∀ i ∈ ps, i < n := fun i hi => by
  obtain ⟨x, hx, e⟩ := List.mem_iff_getElem.mp hi
  obtain ⟨y, e1, e2, _⟩ := h.par x (by rw [← h.len]; exact hx)
  rw [List.getElem?_eq_getElem hx, e] at e1
  cases Option.some.inj e1
  exact e2
theorem Makes.lt {qs : List (Nat × Nat)} {ps : List Nat} (h : Makes qs ps) : ∀ p ∈ qs, p.1 < ps.length ∧ p.2 < ps.length := fun p hp => ⟨get_lt (h.ok p hp).1, get_lt (h.ok p hp).2⟩
theorem iteN {A B : Prop} (h : B) : if (!true) = true then A else B := by
  rw [if_neg (by decide)]
  exact h
end Pc
namespace Pc
open PySem PySem.Spec PyProof.Rows L2 RZ
/-! ### a loop over a list or a tuple that stays as it is -/
theorem for_seq {K : PySem.W.Frag} {a : Addr} {xs : List V} {g : TG} {tb : TS} {D : Ends} {σ : L2.St} {H0 H : Hp} (hS : Sq K H0 a xs) (Pv : Nat → L2.St → Hp → Prop) (h0 : Pv 0 σ H) (hst : ∀ i σ H', Pv i σ H' → Same H0 H')
    (hs : ∀ i x σ H', xs[i]? = some x → Pv i σ H' → g x σ H' fun σ2 H2 => tb { D with nx := Pv (i + 1), ct := Pv (i + 1), bk := D.nx } σ2 H2) (hd : ∀ σ H', Pv xs.length σ H' → D.nx σ H') :
    ((∃ ys, SqL K H a ys) ∧ ∃ W : Nat → Nat → L2.St → Hp → Prop, (∃ m, W 0 m σ H) ∧ ∀ i m σ H, W i m σ H → ((Itl K a).stop i H ∧ D.nx σ H) ∨ ((Itl K a).go i H ∧ ∃ N : L2.St → Hp → Prop, (∀ σ' H', N σ' H' → ∃ m', m' < m ∧ W (i + 1) m' σ' H') ∧ ∀ x H', (Itl K a).yld i H x H' → g x σ H' fun σ2 H2 => tb { D with nx := N, ct := N, bk := D.nx } σ2 H2)) ∨
    ((∃ ys, SqT K H a ys) ∧ ∃ W : Nat → Nat → L2.St → Hp → Prop, (∃ m, W 0 m σ H) ∧ ∀ i m σ H, W i m σ H → ((Itt K a).stop i H ∧ D.nx σ H) ∨ ((Itt K a).go i H ∧ ∃ N : L2.St → Hp → Prop, (∀ σ' H', N σ' H' → ∃ m', m' < m ∧ W (i + 1) m' σ' H') ∧ ∀ x H', (Itt K a).yld i H x H' → g x σ H' fun σ2 H2 => tb { D with nx := N, ct := N, bk := D.nx } σ2 H2)) := by
  rcases hS with h | h
  · exact .inl ⟨⟨_, (hst 0 σ H h0).seq h⟩, for_list Pv h0 (fun i σ H' _ p => (hst i σ H' p).seq h) hs hd⟩
  · exact .inr ⟨⟨_, same_tup (hst 0 σ H h0) h⟩, for_tup Pv h0 (fun i σ H' _ p => same_tup (hst i σ H' p) h) hs hd⟩
/-! ### two are joined, and the two that are left -/
def jn (fs : List Nat) (a b : Nat) : List Nat := if fs.getD a 0 = b then fs else (((fs.set a b).set b a).set (fs.getD a 0) (fs.getD b 0)).set (fs.getD b 0) (fs.getD a 0)
theorem jn_len (fs : List Nat) (a b : Nat) : (jn fs a b).length = fs.length := by
  unfold jn
  split
  · rfl
  · simp only [List.length_set]
/-- the four are different -/
theorem four {n : Nat} {fs : List Nat} (h : IsPair n fs) {a b c d : Nat} (hab : a ≠ b) (ea : fs[a]? = some c) (eb : fs[b]? = some d) (hcb : c ≠ b) : c ≠ a ∧ d ≠ b ∧ d ≠ a ∧ c ≠ d ∧ a < n ∧ b < n ∧ c < n ∧ d < n := by
  obtain ⟨a1, a2, a3, a4⟩ := h.back ea
  obtain ⟨b1, b2, b3, b4⟩ := h.back eb
  refine ⟨a4, b4, fun e => ?_, fun e => ?_, a3, b3, a2, b2⟩
  · rw [e, ea] at b1; exact hcb (Option.some.inj b1)
  · rw [e, b1] at a1; exact hab (Option.some.inj a1).symm
theorem jn_same {fs : List Nat} {a b : Nat} (e : fs[a]? = some b) : jn fs a b = fs := by
  unfold jn
  rw [getD_of e, if_pos rfl]
theorem jn_get {n : Nat} {fs : List Nat} (h : IsPair n fs) {a b c d : Nat} (hab : a ≠ b) (ea : fs[a]? = some c) (eb : fs[b]? = some d) (hcb : c ≠ b) (z : Nat) :
    (jn fs a b)[z]? = if z = a then some b else if z = b then some a else if z = c then some d else if z = d then some c else fs[z]? := by
  obtain ⟨x1, x2, x3, x4, l1, l2, l3, l4⟩ := four h hab ea eb hcb
  unfold jn
  rw [getD_of ea, getD_of eb, if_neg hcb]
  have hl := h.len
  by_cases z4 : z = d
  · subst z4
    rw [List.getElem?_set_self (by simp only [List.length_set]; omega), if_neg x3, if_neg x2, if_neg (Ne.symm x4), if_pos rfl]
  · rw [List.getElem?_set_ne (Ne.symm z4)]
    by_cases z3 : z = c
    · subst z3
      rw [List.getElem?_set_self (by simp only [List.length_set]; omega), if_neg x1, if_neg hcb, if_pos rfl]
    · rw [List.getElem?_set_ne (Ne.symm z3)]
      by_cases z2 : z = b
      · subst z2
        rw [List.getElem?_set_self (by simp only [List.length_set]; omega), if_neg (Ne.symm hab), if_pos rfl]
      · rw [List.getElem?_set_ne (Ne.symm z2)]
        by_cases z1 : z = a
        · subst z1
          rw [List.getElem?_set_self (by omega), if_pos rfl]
        · rw [List.getElem?_set_ne (Ne.symm z1), if_neg z1, if_neg z2, if_neg z3, if_neg z4]
theorem jn_pair {n : Nat} {fs : List Nat} (h : IsPair n fs) {a b : Nat} (hab : a ≠ b) (ha : a < n) (hb : b < n) : IsPair n (jn fs a b) := by
  obtain ⟨c, ea, _⟩ := h.par a ha
  obtain ⟨d, eb, _⟩ := h.par b hb
  by_cases hcb : c = b
  · subst hcb; rw [jn_same ea]; exact h
  · have G := jn_get h hab ea eb hcb
    obtain ⟨x1, x2, x3, x4, _, _, l3, l4⟩ := four h hab ea eb hcb
    refine ⟨by rw [jn_len]; exact h.len, fun x hx => ?_⟩
    by_cases z1 : x = a
    · subst z1
      exact ⟨b, by rw [G, if_pos rfl], hb, hab.symm, by rw [G, if_neg hab.symm, if_pos rfl]⟩
    · by_cases z2 : x = b
      · subst z2
        exact ⟨a, by rw [G, if_neg z1, if_pos rfl], ha, hab, by rw [G, if_pos rfl]⟩
      · by_cases z3 : x = c
        · subst z3
          exact ⟨d, by rw [G, if_neg z1, if_neg z2, if_pos rfl], l4, x4.symm, by rw [G, if_neg x3, if_neg x2, if_neg x4.symm, if_pos rfl]⟩
        · by_cases z4 : x = d
          · subst z4
            exact ⟨c, by rw [G, if_neg z1, if_neg z2, if_neg z3, if_pos rfl], l3, x4, by rw [G, if_neg x1, if_neg hcb, if_pos rfl]⟩
          · obtain ⟨y, e1, e2, e3, e4⟩ := h.par x hx
            have back : ∀ {u : Nat}, y = u → fs[u]? = some x := fun e => by rw [← e]; exact e4
            refine ⟨y, by rw [G, if_neg z1, if_neg z2, if_neg z3, if_neg z4]; exact e1, e2, e3, ?_⟩
            rw [G, if_neg, if_neg, if_neg, if_neg]
            · exact e4
            · intro e; have q := back e; rw [(h.back eb).1] at q; exact z2 (Option.some.inj q).symm
            · intro e; have q := back e; rw [(h.back ea).1] at q; exact z1 (Option.some.inj q).symm
            · intro e; have q := back e; rw [eb] at q; exact z4 (Option.some.inj q).symm
            · intro e; have q := back e; rw [ea] at q; exact z3 (Option.some.inj q).symm
/-- all pairs are calls of n people -/
def Calls (n : Nat) (qs : List (Nat × Nat)) : Prop := ∀ q ∈ qs, q.1 < q.2 ∧ q.2 < n
/-- the calls done one after another -/
def runs (qs : List (Nat × Nat)) (ps : List Nat) : List Nat := qs.foldl (fun fs q => jn fs q.1 q.2) ps
theorem runs_take {qs : List (Nat × Nat)} {ps : List Nat} {i : Nat} {q : Nat × Nat} (h : qs[i]? = some q) : runs (qs.take (i + 1)) ps = jn (runs (qs.take i) ps) q.1 q.2 := by
  unfold runs
  rw [List.take_add_one, h, List.foldl_append]
  rfl
theorem runs_pair {n : Nat} : ∀ (qs : List (Nat × Nat)) {ps : List Nat}, IsPair n ps → Calls n qs → IsPair n (runs qs ps)
  | [], _, h, _ => h
  | q :: r, ps, h, hc => by
    have h1 := hc q List.mem_cons_self
    exact runs_pair r (jn_pair h (by omega) (by omega) h1.2) (fun x hx => hc x (List.mem_cons_of_mem _ hx))
theorem Calls.take {n : Nat} {qs : List (Nat × Nat)} (h : Calls n qs) (i : Nat) : Calls n (qs.take i) := fun q hq => h q (List.mem_of_mem_take hq)
end Pc
namespace Pc
open PySem PySem.Spec PyProof.Rows L2 RZ
/-! ### lists of tuples of numbers -/
def Tups (H : Hp) (as : List Addr) (ls : List (List Nat)) : Prop := Paired (fun a l => H a = some (.tup (nv l))) as ls
theorem Tups.length {H : Hp} {as : List Addr} {ls : List (List Nat)} (h : Tups H as ls) : as.length = ls.length := Paired.length h
theorem tups_same {H H' : Hp} (e : Same H H') : ∀ {as : List Addr} {ls : List (List Nat)}, Tups H as ls → Tups H' as ls
  | _, _, .nil => .nil
  | _, _, .cons h r => .cons (e _ _ h) (tups_same e r)
theorem tups_keep {b : Addr} {H H' : Hp} {ys : List V} (k : Keep b H H') (hb : H b = some (.lst ys)) : ∀ {as : List Addr} {ls : List (List Nat)}, Tups H as ls → Tups H' as ls
  | _, _, .nil => .nil
  | _, _, .cons h r => .cons (k.tup hb h) (tups_keep k hb r)
theorem tups_append {H : Hp} : ∀ {as bs : List Addr} {ls ms : List (List Nat)}, Tups H as ls → Tups H bs ms → Tups H (as ++ bs) (ls ++ ms)
  | _, _, _, _, .nil, s => s
  | _, _, _, _, .cons h r, s => .cons h (tups_append r s)
theorem tups_get {H : Hp} : ∀ {as : List Addr} {ls : List (List Nat)} {i : Nat} {a : Addr}, Tups H as ls → as[i]? = some a → ∃ l, ls[i]? = some l ∧ H a = some (.tup (nv l))
  | _, _, _, _, .nil, h => by simp at h
  | _, _, 0, _, .cons (b := p) h _, e => by
    cases Option.some.inj e
    exact ⟨p, rfl, h⟩
  | _, _, i + 1, a, .cons _ r, e => tups_get (i := i) r e
def td (l : List Nat) : PyData := .tuple (nd l)
theorem tups_dp {K : PySem.W.Frag} {H : Hp} : ∀ {as : List Addr} {ls : List (List Nat)}, Tups H as ls → DpAll K H (as.map V.ref) (ls.map td)
  | _, _, .nil => .nil
  | _, _, .cons (b := l) h r => .cons (.tup (.inl (.inl h)) (dp_nats l)) (tups_dp r)
theorem fine_tds {ls : List (List Nat)} {n m : Nat} (h : ∀ l ∈ ls, l.length ≤ m ∧ ∀ i ∈ l, i < 2 ^ 60) (hn : ls.length ≤ n) (hb : n ≤ 100000) (hm : m ≤ 100000) : Fine 2 (n * (m * 63 + 5) + 3) (.list (ls.map td)) :=
  fine_list (fun d hd => by
    obtain ⟨l, hl, rfl⟩ := List.mem_map.mp hd
    exact fine_tup (h l hl).2 (h l hl).1 hm) (by rw [List.length_map]; exact hn) hb
/-- the pairings before the first call and behind each -/
def alongs (qs : List (Nat × Nat)) (ps : List Nat) (i : Nat) : List (List Nat) := (List.range (i + 1)).map fun j => runs (qs.take j) ps
theorem alongs_zero (qs : List (Nat × Nat)) (ps : List Nat) : alongs qs ps 0 = [ps] := rfl
theorem alongs_succ (qs : List (Nat × Nat)) (ps : List Nat) (i : Nat) : alongs qs ps (i + 1) = alongs qs ps i ++ [runs (qs.take (i + 1)) ps] := by
  unfold alongs
  rw [List.range_succ, List.map_append]
  rfl
theorem alongs_len (qs : List (Nat × Nat)) (ps : List Nat) (i : Nat) : (alongs qs ps i).length = i + 1 := by
  unfold alongs
  rw [List.length_map, List.length_range]
theorem alongs_mem {n i : Nat} {qs : List (Nat × Nat)} {ps l : List Nat} (hP : IsPair n ps) (hc : Calls n qs) (h : l ∈ alongs qs ps i) : IsPair n l := by
  obtain ⟨j, _, rfl⟩ := List.mem_map.mp h
  exact runs_pair _ hP (hc.take j)
end Pc
namespace Pc
open PySem PySem.Spec PyProof.Rows L2 RZ
/-! ### sheets as lists of natural numbers -/
/-- the empty sheet of n people -/
def emp (n : Nat) : List Nat := (List.range (2 * n)).map fun e => (e + n) % (2 * n)
theorem emp_len (n : Nat) : (emp n).length = 2 * n := by unfold emp; rw [List.length_map, List.length_range]
theorem emp_get {n e : Nat} (h : e < 2 * n) : (emp n)[e]? = some ((e + n) % (2 * n)) := by
  unfold emp
  rw [List.getElem?_map, List.getElem?_range h]
  rfl
theorem emp_lo {n e : Nat} (h : e < n) : (emp n)[e]? = some (n + e) := by
  rw [emp_get (by omega), Nat.mod_eq_of_lt (by omega), Nat.add_comm]
theorem emp_hi {n e : Nat} (h : e < n) : (emp n)[n + e]? = some e := by
  rw [emp_get (by omega), show n + e + n = e + 1 * (2 * n) by omega, Nat.add_mul_mod_self_right, Nat.mod_eq_of_lt (by omega)]
theorem emp_pair {n : Nat} (hn : 0 < n) : IsPair (2 * n) (emp n) := by
  refine ⟨emp_len n, fun x hx => ?_⟩
  by_cases h : x < n
  · exact ⟨n + x, emp_lo h, by omega, by omega, emp_hi h⟩
  · have e : x = n + (x - n) := by omega
    refine ⟨x - n, ?_, by omega, by omega, ?_⟩
    · have := emp_hi (n := n) (e := x - n) (by omega)
      rw [← e] at this; exact this
    · have := emp_lo (n := n) (e := x - n) (by omega)
      rw [← e] at this; exact this
/-- the calls at the lower ends -/
def low (n : Nat) (qs : List (Nat × Nat)) : List (Nat × Nat) := qs.map fun q => (n + q.1, n + q.2)
theorem low_calls {n : Nat} {qs : List (Nat × Nat)} (h : Calls n qs) : Calls (2 * n) (low n qs) := fun q hq => by
  obtain ⟨r, hr, rfl⟩ := List.mem_map.mp hq
  have := h r hr
  exact ⟨by show n + r.1 < n + r.2; omega, by show n + r.2 < 2 * n; omega⟩
theorem low_take (n : Nat) (qs : List (Nat × Nat)) (i : Nat) : (low n qs).take i = low n (qs.take i) := by unfold low; rw [List.map_take]
theorem low_get {n i : Nat} {qs : List (Nat × Nat)} {q : Nat × Nat} (h : qs[i]? = some q) : (low n qs)[i]? = some (n + q.1, n + q.2) := by
  unfold low; rw [List.getElem?_map, h]; rfl
/-- the sheet with calls added -/
def shw (n : Nat) (qs : List (Nat × Nat)) (fs : List Nat) : List Nat := runs (low n qs) fs
theorem shw_take {n i : Nat} {qs : List (Nat × Nat)} {fs : List Nat} {q : Nat × Nat} (h : qs[i]? = some q) : shw n (qs.take (i + 1)) fs = jn (shw n (qs.take i) fs) (n + q.1) (n + q.2) := by
  unfold shw
  rw [← low_take, ← low_take, runs_take (low_get h)]
theorem shw_pair {n : Nat} {qs : List (Nat × Nat)} {fs : List Nat} (hP : IsPair (2 * n) fs) (h : Calls n qs) : IsPair (2 * n) (shw n qs fs) := runs_pair _ hP (low_calls h)
/-- the other order of the stores -/
theorem jn_alt {n : Nat} {fs : List Nat} (h : IsPair n fs) {a b c d : Nat} (hab : a ≠ b) (ea : fs[a]? = some c) (eb : fs[b]? = some d) (hcb : c ≠ b) : (((fs.set c d).set d c).set a b).set b a = jn fs a b := by
  obtain ⟨x1, x2, x3, x4, l1, l2, l3, l4⟩ := four h hab ea eb hcb
  have hl := h.len
  refine List.ext_getElem? fun z => ?_
  rw [jn_get h hab ea eb hcb]
  by_cases z2 : z = b
  · subst z2
    rw [List.getElem?_set_self (by simp only [List.length_set]; omega), if_neg hab.symm, if_pos rfl]
  · rw [List.getElem?_set_ne (Ne.symm z2)]
    by_cases z1 : z = a
    · subst z1
      rw [List.getElem?_set_self (by simp only [List.length_set]; omega), if_pos rfl]
    · rw [List.getElem?_set_ne (Ne.symm z1), if_neg z1, if_neg z2]
      by_cases z4 : z = d
      · subst z4
        rw [List.getElem?_set_self (by simp only [List.length_set]; omega), if_neg (Ne.symm x4), if_pos rfl]
      · rw [List.getElem?_set_ne (Ne.symm z4)]
        by_cases z3 : z = c
        · subst z3
          rw [List.getElem?_set_self (by omega), if_pos rfl]
        · rw [List.getElem?_set_ne (Ne.symm z3), if_neg z3, if_neg z4]
theorem range_shift (n : Nat) : rgV (n : Int) (2 * (n : Int)) = nv ((List.range n).map fun i => n + i) := by
  unfold rgV nv
  rw [show (2 * (n : Int) - (n : Int)).toNat = n by omega, List.map_map]
  refine List.map_congr_left fun i _ => ?_
  show V.int ((n : Int) + (i : Nat)) = V.int (((n + i : Nat) : Int))
  rw [show (((n + i : Nat) : Int)) = (n : Int) + (i : Nat) by omega]
/-- strands in any order: the upper ends in turn, the lower ends as drawn -/
def SInv (n : Nat) (ls fs : List Nat) (t : Nat) : Prop := fs.length = 2 * n ∧ ∀ j, j < t → ∀ l, ls[j]? = some l → fs[j]? = some l ∧ fs[l]? = some j
theorem SInv.step {n : Nat} {ls fs : List Nat} {t l : Nat} (hp : ls.Perm ((List.range n).map fun i => n + i)) (h : SInv n ls fs t) (hl : ls[t]? = some l) : SInv n ls ((fs.set t l).set l t) (t + 1) := by
  have hln : ls.length = n := by rw [hp.length_eq, List.length_map, List.length_range]
  have hnd : ls.Nodup := hp.nodup_iff.mpr (List.Pairwise.map _ (fun a b (hab : a ≠ b) => show n + a ≠ n + b by omega) List.nodup_range)
  have big : ∀ {j x : Nat}, ls[j]? = some x → n ≤ x ∧ x < 2 * n := fun hx => by
    obtain ⟨i, hi, e⟩ := List.mem_map.mp (hp.mem_iff.mp (List.mem_of_getElem? hx))
    have := List.mem_range.mp hi
    omega
  have ht : t < n := by rw [← hln]; exact get_lt hl
  have hb := big hl
  obtain ⟨h1, h2⟩ := h
  refine ⟨by simp only [List.length_set]; exact h1, fun j hj x hx => ?_⟩
  have hjn : j < n := by rw [← hln]; exact get_lt hx
  have hbx := big hx
  by_cases e : j = t
  · subst e
    cases Option.some.inj (hl.symm.trans hx)
    exact ⟨by rw [List.getElem?_set_ne (by omega), List.getElem?_set_self (by omega)], by rw [List.getElem?_set_self (by simp only [List.length_set]; omega)]⟩
  · obtain ⟨g1, g2⟩ := h2 j (by omega) x hx
    have xl : l ≠ x := fun z => by subst z; exact e (nd_ix hnd hx hl)
    exact ⟨by rw [List.getElem?_set_ne (by omega), List.getElem?_set_ne (by omega)]; exact g1, by rw [List.getElem?_set_ne xl, List.getElem?_set_ne (by omega)]; exact g2⟩
theorem SInv.done {n : Nat} {ls fs : List Nat} (hp : ls.Perm ((List.range n).map fun i => n + i)) (h : SInv n ls fs n) : IsPair (2 * n) fs := by
  have hln : ls.length = n := by rw [hp.length_eq, List.length_map, List.length_range]
  refine ⟨h.1, fun x hx => ?_⟩
  by_cases e : x < n
  · obtain ⟨l, hl⟩ := get_some (l := ls) (i := x) (by omega)
    obtain ⟨i, hi, e'⟩ := List.mem_map.mp (hp.mem_iff.mp (List.mem_of_getElem? hl))
    have := List.mem_range.mp hi
    obtain ⟨g1, g2⟩ := h.2 x e l hl
    exact ⟨l, g1, by omega, by omega, g2⟩
  · have hm : x ∈ ls := hp.mem_iff.mpr (List.mem_map.mpr ⟨x - n, List.mem_range.mpr (by omega), by omega⟩)
    obtain ⟨j, hj, ej⟩ := List.mem_iff_getElem.mp hm
    obtain ⟨g1, g2⟩ := h.2 j (by omega) x (by rw [List.getElem?_eq_getElem hj, ej])
    exact ⟨j, g2, by omega, by omega, g1⟩
theorem emp_step (n i : Nat) (h : i < 2 * n) : (emp n).take (i + 1) = (emp n).take i ++ [(i + n) % (2 * n)] := by
  rw [List.take_add_one, emp_get h]
  rfl
theorem nv_snoc' (l : List Nat) (x : Nat) : nv l ++ [.int (x : Int)] = nv (l ++ [x]) := by
  unfold nv
  rw [List.map_append]; rfl
theorem mod_cast_n (i n : Nat) : ((0 : Int) + (i : Nat) + (n : Int)) % (2 * (n : Int)) = (((i + n) % (2 * n) : Nat) : Int) := by
  have h : (((i + n) % (2 * n) : Nat) : Int) = ((i + n : Nat) : Int) % ((2 * n : Nat) : Int) := Int.natCast_emod _ _
  rw [h, Int.natCast_add, Int.natCast_mul, Int.zero_add]
  rfl
end Pc
namespace Pc
open PySem PySem.Spec PyProof.Rows L2 RZ
/-! ### pairs that are chosen from a range -/
def selN (c : Nat → Bool) (g : Nat → Nat × Nat) (i : Nat) : List (Nat × Nat) := ((List.range i).filter c).map g
theorem selN_yes {c : Nat → Bool} {g : Nat → Nat × Nat} {i : Nat} (h : c i = true) : selN c g (i + 1) = selN c g i ++ [g i] := by
  unfold selN
  rw [List.range_succ, List.filter_append, List.map_append, List.filter_cons_of_pos h, List.filter_nil, List.map_cons, List.map_nil]
theorem selN_no {c : Nat → Bool} {g : Nat → Nat × Nat} {i : Nat} (h : c i = false) : selN c g (i + 1) = selN c g i := by
  unfold selN
  rw [List.range_succ, List.filter_append, List.map_append, List.filter_cons_of_neg (by rw [h]; decide), List.filter_nil, List.map_nil, List.append_nil]
theorem selN_len (c : Nat → Bool) (g : Nat → Nat × Nat) (i : Nat) : (selN c g i).length ≤ i := by
  unfold selN
  rw [List.length_map]
  exact Nat.le_trans (List.length_filter_le _ _) (by rw [List.length_range]; exact Nat.le_refl _)
theorem selN_mem {c : Nat → Bool} {g : Nat → Nat × Nat} {i : Nat} {p : Nat × Nat} : p ∈ selN c g i ↔ ∃ x, x < i ∧ c x = true ∧ g x = p := by
  unfold selN
  rw [List.mem_map]
  constructor
  · rintro ⟨x, hx, e⟩
    have := List.mem_filter.mp hx
    exact ⟨x, List.mem_range.mp this.1, this.2, e⟩
  · rintro ⟨x, h1, h2, e⟩
    exact ⟨x, List.mem_filter.mpr ⟨List.mem_range.mpr h1, h2⟩, e⟩
/-- one more pair is put to the list -/
theorem sel_step {H H1 : Hp} {D u : Addr} {as : List Addr} {c : Nat → Bool} {g : Nat → Nat × Nat} {i : Nat} {v1 v2 : V} (nD : H D = none) (sm : Same H H1) (eD : H1 D = some (.lst (as.map V.ref))) (hA : Prs H1 as (selN c g i)) (hc : c i = true) (nu : H1 u = none)
    (hv : [v1, v2] = [V.int ((g i).1 : Int), V.int ((g i).2 : Int)]) (hi : i ≤ 999) : ∃ acc, (upd H1 u (.tup [v1, v2])) D = some (.lst acc) ∧ acc.length < sizeLine ∧
      (Same H (upd (upd H1 u (.tup [v1, v2])) D (.lst (acc ++ [.ref u]))) ∧ ∃ as' : List Addr, (upd (upd H1 u (.tup [v1, v2])) D (.lst (acc ++ [.ref u]))) D = some (.lst (as'.map V.ref)) ∧ Prs (upd (upd H1 u (.tup [v1, v2])) D (.lst (acc ++ [.ref u]))) as' (selN c g (i + 1))) := by
  have su : Same H1 (upd H1 u (.tup [v1, v2])) := same_new nu
  have nuD : u ≠ D := fun e => by rw [e, eD] at nu; cases nu
  refine ⟨_, su _ _ eD, ?_, fun b' o hb => ?_, as ++ [u], ?_, ?_⟩
  · rw [List.length_map, hA.length]
    have := selN_len c g i
    exact small1000 (by omega)
  · rw [upd_ne (ne_of_none hb nD)]; exact su _ _ (sm _ _ hb)
  · rw [upd_same, List.map_append]; rfl
  · rw [selN_yes hc]
    refine prs_append (prs_keep (b := D) (ys := as.map V.ref) keep_upd (su _ _ eD) (prs_same su hA)) (.cons ?_ .nil)
    rw [upd_ne nuD, upd_same, hv]
theorem ix_sq {K : PySem.W.Frag} {H : Hp} {a : Addr} {xs : List V} {i : Int} {v : V} {Q : VK} (h : Sq K H a xs) (e : atI xs i = some v) (q : Q v H) : rIx K (.ref a) (.int i) H Q :=
  h.elim (fun z => .inl ⟨a, xs, i, v, rfl, rfl, z, e, q⟩) (fun z => .inr (.inl ⟨a, xs, i, v, rfl, rfl, z, e, q⟩))
/-! ### upper pairs, lower pairs, strands -/
def upC (fs : List Nat) (n x : Nat) : Bool := decide (x < fs.getD x 0) && decide (fs.getD x 0 < n)
def upG (fs : List Nat) (x : Nat) : Nat × Nat := (x, fs.getD x 0)
def loC (fs : List Nat) (n x : Nat) : Bool := decide (n + x < fs.getD (n + x) 0)
def loG (fs : List Nat) (n x : Nat) : Nat × Nat := (x, fs.getD (n + x) 0 - n)
def stC (fs : List Nat) (n x : Nat) : Bool := decide (n ≤ fs.getD x 0)
def stG (fs : List Nat) (n x : Nat) : Nat × Nat := (x, fs.getD x 0 - n)
def ups (fs : List Nat) (n : Nat) : List (Nat × Nat) := selN (upC fs n) (upG fs) n
def los (fs : List Nat) (n : Nat) : List (Nat × Nat) := selN (loC fs n) (loG fs n) n
def sts (fs : List Nat) (n : Nat) : List (Nat × Nat) := selN (stC fs n) (stG fs n) n
theorem ups_mem {n : Nat} {fs : List Nat} (h : IsPair (2 * n) fs) {p : Nat × Nat} (hp : p ∈ ups fs n) : fs[p.1]? = some p.2 ∧ p.1 < p.2 ∧ p.2 < n := by
  obtain ⟨x, hx, hc, e⟩ := selN_mem.mp hp
  obtain ⟨y, ey, _⟩ := h.par x (by omega)
  unfold upC at hc
  rw [getD_of ey, Bool.and_eq_true, decide_eq_true_iff, decide_eq_true_iff] at hc
  subst e
  show fs[x]? = some (fs.getD x 0) ∧ x < fs.getD x 0 ∧ fs.getD x 0 < n
  rw [getD_of ey]
  exact ⟨ey, hc.1, hc.2⟩
theorem los_mem {n : Nat} {fs : List Nat} (h : IsPair (2 * n) fs) {p : Nat × Nat} (hp : p ∈ los fs n) : fs[n + p.1]? = some (n + p.2) ∧ p.1 < p.2 ∧ p.2 < n := by
  obtain ⟨x, hx, hc, e⟩ := selN_mem.mp hp
  obtain ⟨y, ey, hy, _⟩ := h.par (n + x) (by omega)
  unfold loC at hc
  rw [getD_of ey, decide_eq_true_iff] at hc
  subst e
  show fs[n + x]? = some (n + (fs.getD (n + x) 0 - n)) ∧ x < fs.getD (n + x) 0 - n ∧ fs.getD (n + x) 0 - n < n
  rw [getD_of ey, show n + (y - n) = y by omega]
  exact ⟨ey, by omega, by omega⟩
theorem sts_mem {n : Nat} {fs : List Nat} (h : IsPair (2 * n) fs) {p : Nat × Nat} (hp : p ∈ sts fs n) : fs[p.1]? = some (n + p.2) ∧ p.1 < n ∧ p.2 < n := by
  obtain ⟨x, hx, hc, e⟩ := selN_mem.mp hp
  obtain ⟨y, ey, hy, _⟩ := h.par x (by omega)
  unfold stC at hc
  rw [getD_of ey, decide_eq_true_iff] at hc
  subst e
  show fs[x]? = some (n + (fs.getD x 0 - n)) ∧ x < n ∧ fs.getD x 0 - n < n
  rw [getD_of ey, show n + (y - n) = y by omega]
  exact ⟨ey, by omega, by omega⟩
/-- all joins of a sheet, as pairs of ends -/
def jns (fs : List Nat) (n : Nat) : List (Nat × Nat) := ups fs n ++ ((los fs n).map (fun p => (n + p.1, n + p.2)) ++ (sts fs n).map (fun p => (p.1, n + p.2)))
theorem jns_ok {n : Nat} {fs : List Nat} (h : IsPair (2 * n) fs) : ∀ p ∈ jns fs n, fs[p.1]? = some p.2 ∧ p.1 < p.2 := fun p hp => by
  rcases List.mem_append.mp hp with z | z
  · have := ups_mem h z; exact ⟨this.1, this.2.1⟩
  · rcases List.mem_append.mp z with z | z
    · obtain ⟨r, hr, rfl⟩ := List.mem_map.mp z
      have := los_mem h hr
      exact ⟨this.1, by show n + r.1 < n + r.2; omega⟩
    · obtain ⟨r, hr, rfl⟩ := List.mem_map.mp z
      have := sts_mem h hr
      exact ⟨this.1, by show r.1 < n + r.2; omega⟩
theorem sel_fst {c : Nat → Bool} {g : Nat → Nat × Nat} {i : Nat} (h : ∀ x, (g x).1 = x) : (selN c g i).map Prod.fst = (List.range i).filter c := by
  unfold selN
  rw [List.map_map]
  conv => rhs; rw [← List.map_id ((List.range i).filter c)]
  exact List.map_congr_left fun x _ => h x
theorem jns_nodup {n : Nat} {fs : List Nat} (h : IsPair (2 * n) fs) : ((jns fs n).map Prod.fst).Nodup := by
  have e1 : (ups fs n).map Prod.fst = (List.range n).filter (upC fs n) := sel_fst fun _ => rfl
  have e2 : ((los fs n).map (fun p => (n + p.1, n + p.2))).map Prod.fst = ((List.range n).filter (loC fs n)).map (fun x => n + x) := by
    rw [← sel_fst (c := loC fs n) (g := loG fs n) (i := n) fun _ => rfl, List.map_map, List.map_map]; rfl
  have e3 : ((sts fs n).map (fun p => (p.1, n + p.2))).map Prod.fst = (List.range n).filter (stC fs n) := by
    rw [← sel_fst (c := stC fs n) (g := stG fs n) (i := n) fun _ => rfl, List.map_map]; rfl
  unfold jns
  rw [List.map_append, List.map_append, e1, e2, e3]
  have nr : (List.range n).Nodup := List.nodup_range
  refine List.nodup_append.mpr ⟨nr.filter _, List.nodup_append.mpr ⟨?_, nr.filter _, fun a ha b hb => ?_⟩, fun a ha b hb => ?_⟩
  · exact List.Pairwise.map _ (fun a b (hab : a ≠ b) => show n + a ≠ n + b by omega) (nr.filter _)
  · obtain ⟨x, _, rfl⟩ := List.mem_map.mp ha
    have := List.mem_range.mp (List.mem_filter.mp hb).1
    omega
  · have ha1 := List.mem_range.mp (List.mem_filter.mp ha).1
    have ha2 := (List.mem_filter.mp ha).2
    unfold upC at ha2
    rw [Bool.and_eq_true, decide_eq_true_iff, decide_eq_true_iff] at ha2
    rcases List.mem_append.mp hb with z | z
    · obtain ⟨x, _, rfl⟩ := List.mem_map.mp z; omega
    · have hb2 := (List.mem_filter.mp z).2
      unfold stC at hb2
      rw [decide_eq_true_iff] at hb2
      intro e; subst e; omega
theorem jns_all {n : Nat} {fs : List Nat} (h : IsPair (2 * n) fs) {z y : Nat} (e : fs[z]? = some y) (hz : z < y) : (z, y) ∈ jns fs n := by
  obtain ⟨_, hy, hz2, _⟩ := h.back e
  unfold jns
  by_cases c : z < n
  · by_cases d : y < n
    · refine List.mem_append.mpr (.inl (selN_mem.mpr ⟨z, c, ?_, ?_⟩))
      · unfold upC; rw [getD_of e, decide_eq_true hz, decide_eq_true d]; rfl
      · unfold upG; rw [getD_of e]
    · refine List.mem_append.mpr (.inr (List.mem_append.mpr (.inr (List.mem_map.mpr ⟨(z, y - n), selN_mem.mpr ⟨z, c, ?_, ?_⟩, ?_⟩))))
      · unfold stC; rw [getD_of e]; exact decide_eq_true (by omega)
      · unfold stG; rw [getD_of e]
      · show (z, n + (y - n)) = (z, y); rw [show n + (y - n) = y by omega]
  · have e' : fs[n + (z - n)]? = some y := by rw [show n + (z - n) = z by omega]; exact e
    refine List.mem_append.mpr (.inr (List.mem_append.mpr (.inl (List.mem_map.mpr ⟨(z - n, y - n), selN_mem.mpr ⟨z - n, by omega, ?_, ?_⟩, ?_⟩))))
    · unfold loC; rw [getD_of e']; exact decide_eq_true (by omega)
    · unfold loG; rw [getD_of e']
    · show (n + (z - n), n + (y - n)) = (z, y); rw [show n + (z - n) = z by omega, show n + (y - n) = y by omega]
/-- the ends of joins in a row -/
def flat : List (Nat × Nat) → List Nat
  | [] => []
  | p :: r => p.1 :: p.2 :: flat r
theorem flat_app : ∀ a b : List (Nat × Nat), flat (a ++ b) = flat a ++ flat b
  | [], _ => rfl
  | p :: r, b => by show p.1 :: p.2 :: flat (r ++ b) = _; rw [flat_app r b]; rfl
theorem flat_mem : ∀ {l : List (Nat × Nat)} {z : Nat}, z ∈ flat l ↔ ∃ p ∈ l, z = p.1 ∨ z = p.2
  | [], z => by simp [flat]
  | p :: r, z => by
    show z ∈ p.1 :: p.2 :: flat r ↔ _
    rw [List.mem_cons, List.mem_cons, flat_mem (l := r)]
    constructor
    · rintro (e | e | ⟨q, hq, e⟩)
      · exact ⟨p, List.mem_cons_self, .inl e⟩
      · exact ⟨p, List.mem_cons_self, .inr e⟩
      · exact ⟨q, List.mem_cons_of_mem _ hq, e⟩
    · rintro ⟨q, hq, e⟩
      rcases List.mem_cons.mp hq with z | z
      · subst z; exact e.elim .inl (fun e => .inr (.inl e))
      · exact .inr (.inr ⟨q, z, e⟩)
theorem flat_len : ∀ l : List (Nat × Nat), (flat l).length = 2 * l.length
  | [] => rfl
  | p :: r => by show (flat r).length + 1 + 1 = 2 * (r.length + 1); rw [flat_len r]; omega
theorem flat_nodup {n : Nat} {fs : List Nat} (h : IsPair n fs) : ∀ {l : List (Nat × Nat)}, (∀ p ∈ l, fs[p.1]? = some p.2 ∧ p.1 < p.2) → (l.map Prod.fst).Nodup → (flat l).Nodup
  | [], _, _ => List.nodup_nil
  | p :: r, ho, hd => by
    have hp := ho p List.mem_cons_self
    obtain ⟨n1, n2⟩ := List.nodup_cons.mp (show (p.1 :: r.map Prod.fst).Nodup from hd)
    have hr : ∀ q ∈ r, fs[q.1]? = some q.2 ∧ q.1 < q.2 := fun q hq => ho q (List.mem_cons_of_mem _ hq)
    have ih := flat_nodup h hr n2
    have bp := (h.back hp.1).1
    have ne1 : ∀ q ∈ r, p.1 ≠ q.1 := fun q hq e => n1 (List.mem_map.mpr ⟨q, hq, e.symm⟩)
    show (p.1 :: p.2 :: flat r).Nodup
    refine List.nodup_cons.mpr ⟨fun hm => ?_, List.nodup_cons.mpr ⟨fun hm => ?_, ih⟩⟩
    · rcases List.mem_cons.mp hm with e | e
      · omega
      · obtain ⟨q, hq, e⟩ := flat_mem.mp e
        have hq' := hr q hq
        rcases e with e | e
        · exact ne1 q hq e
        · have bq := (h.back hq'.1).1
          rw [← e, hp.1] at bq
          have := Option.some.inj bq
          omega
    · obtain ⟨q, hq, e⟩ := flat_mem.mp hm
      have hq' := hr q hq
      rcases e with e | e
      · have e1 := hq'.1
        rw [← e, bp] at e1
        have := Option.some.inj e1
        omega
      · have bq := (h.back hq'.1).1
        rw [← e, bp] at bq
        exact ne1 q hq (Option.some.inj bq)
theorem jns_perm {n : Nat} {fs : List Nat} (h : IsPair (2 * n) fs) : (flat (jns fs n)).Perm (List.range (2 * n)) := by
  refine (List.perm_ext_iff_of_nodup (flat_nodup h (jns_ok h) (jns_nodup h)) List.nodup_range).mpr fun z => ?_
  rw [flat_mem, List.mem_range]
  constructor
  · rintro ⟨p, hp, e⟩
    obtain ⟨b1, b2, b3, _⟩ := h.back (jns_ok h p hp).1
    rcases e with e | e <;> omega
  · intro hz
    obtain ⟨y, ey, hy, hne, eb⟩ := h.par z hz
    by_cases c : z < y
    · exact ⟨_, jns_all h ey c, .inl rfl⟩
    · exact ⟨_, jns_all h eb (by omega), .inr rfl⟩
theorem flat_two {f : Nat → Bool} : ∀ {l : List (Nat × Nat)}, (∀ p ∈ l, f p.1 = true ∧ f p.2 = true) → (flat l).countP f = 2 * l.length
  | [], _ => rfl
  | p :: r, h => by
    have hp := h p List.mem_cons_self
    show (p.1 :: p.2 :: flat r).countP f = _
    rw [List.countP_cons_of_pos hp.1, List.countP_cons_of_pos hp.2, flat_two fun q hq => h q (List.mem_cons_of_mem _ hq), List.length_cons]
    omega
theorem flat_none {f : Nat → Bool} : ∀ {l : List (Nat × Nat)}, (∀ p ∈ l, f p.1 = false ∧ f p.2 = false) → (flat l).countP f = 0
  | [], _ => rfl
  | p :: r, h => by
    have hp := h p List.mem_cons_self
    show (p.1 :: p.2 :: flat r).countP f = _
    rw [List.countP_cons_of_neg (by rw [hp.1]; decide), List.countP_cons_of_neg (by rw [hp.2]; decide), flat_none fun q hq => h q (List.mem_cons_of_mem _ hq)]
theorem flat_one {f : Nat → Bool} : ∀ {l : List (Nat × Nat)}, (∀ p ∈ l, f p.1 = true ∧ f p.2 = false) → (flat l).countP f = l.length
  | [], _ => rfl
  | p :: r, h => by
    have hp := h p List.mem_cons_self
    show (p.1 :: p.2 :: flat r).countP f = _
    rw [List.countP_cons_of_pos hp.1, List.countP_cons_of_neg (by rw [hp.2]; decide), flat_one fun q hq => h q (List.mem_cons_of_mem _ hq), List.length_cons]
theorem range_low (n : Nat) : (List.range (2 * n)).countP (fun z => decide (z < n)) = n := by
  rw [show 2 * n = n + n by omega, List.range_add, List.countP_append, List.countP_eq_length.mpr (fun a ha => decide_eq_true (List.mem_range.mp ha)), List.countP_eq_zero.mpr (fun a ha => ?_), List.length_range, Nat.add_zero]
  obtain ⟨x, _, rfl⟩ := List.mem_map.mp ha
  rw [decide_eq_true_iff]; omega
theorem ups_los {n : Nat} {fs : List Nat} (h : IsPair (2 * n) fs) : (ups fs n).length = (los fs n).length := by
  have hp := jns_perm h
  have hl := hp.length_eq
  have hc := hp.countP_eq (fun z => decide (z < n))
  rw [range_low] at hc
  rw [flat_len, List.length_range] at hl
  unfold jns at hc hl
  rw [List.length_append, List.length_append, List.length_map, List.length_map] at hl
  have x1 : (flat (ups fs n)).countP (fun z => decide (z < n)) = 2 * (ups fs n).length := flat_two fun p hp => by
    have := ups_mem h hp
    exact ⟨decide_eq_true (by omega), decide_eq_true (by omega)⟩
  have x2 : (flat ((los fs n).map (fun p => (n + p.1, n + p.2)))).countP (fun z => decide (z < n)) = 0 := flat_none fun p hp => by
    obtain ⟨r, hr, rfl⟩ := List.mem_map.mp hp
    exact ⟨decide_eq_false (by show ¬ n + r.1 < n; omega), decide_eq_false (by show ¬ n + r.2 < n; omega)⟩
  have x3 : (flat ((sts fs n).map (fun p => (p.1, n + p.2)))).countP (fun z => decide (z < n)) = ((sts fs n).map (fun p => (p.1, n + p.2))).length := flat_one fun p hp => by
    obtain ⟨r, hr, rfl⟩ := List.mem_map.mp hp
    have := sts_mem h hr
    exact ⟨decide_eq_true (by show r.1 < n; omega), decide_eq_false (by show ¬ n + r.2 < n; omega)⟩
  rw [flat_app, flat_app, List.countP_append, List.countP_append, x1, x2, x3, List.length_map] at hc
  omega
end Pc
namespace Pc
open PySem PySem.Spec PyProof.Rows L2 RZ
section
variable {P : Program} {w : World} {K : PySem.W.Frag} {mg : Str → Option Value} {base : Heap}
/-! ### the number of people of a sheet -/
def spPeople (K : PySem.W.Frag) : Sp := fun vs H Q _ => ∃ (a : Addr) (fs : List Nat) (n : Nat), vs = [.ref a] ∧ Sq K H a (nv fs) ∧ fs.length = 2 * n ∧ Q (.int n) H
theorem ok_p_people_of (T : Env K mg) : FnOk P w K mg base CX0 1 T.f_p_people_of T.d_p_people_of ["sheet"] (spPeople K) := by
  refine T.F_p_people_of.ok sc_p_people_of (fun vs H Q E h => ?_) (fun cdv A outer s H vs Q E hr h => ?_)
  · obtain ⟨a, fs, n, rfl, _⟩ := h
    rfl
  · obtain ⟨a, fs, n, rfl, hS, hl, q⟩ := h
    refine ⟨_, pss_one (ps_ret (pe_op op_fdiv (pe_callB call_len_seq (by rfl) T.n_len PySem.boot_len (pa_cons (pv 0) pa_nil)) pe_int)), ?_⟩
    refine ⟨.ref a, rfl, a, _, rfl, hS, _, 2, rfl, rfl, ⟨by decide, by decide⟩, ?_⟩
    show Q (.int (((nv fs).length : Int) / 2)) H
    rw [nv_length, hl, show (((2 * n : Nat) : Int) / 2) = (n : Int) by omega]
    exact q
end
end Pc
namespace Pc
/-! ### ways along a sheet and a pairing -/
/-- nodup numbers below n are n at most -/
theorem few_below : ∀ (n : Nat) (l : List Nat), l.Nodup → (∀ x ∈ l, x < n) → l.length ≤ n
  | 0, l, _, h => by
    cases l with
    | nil => exact Nat.le_refl _
    | cons a r => exact absurd (h a List.mem_cons_self) (Nat.not_lt_zero _)
  | n + 1, l, hd, h => by
    by_cases hm : n ∈ l
    · have h1 : (l.erase n).length = l.length - 1 := List.length_erase_of_mem hm
      have h2 := few_below n (l.erase n) (hd.erase n) (fun x hx => by
        have hx' := (hd.mem_erase_iff).mp hx
        have := h x hx'.2
        have := hx'.1
        omega)
      omega
    · have h2 := few_below n l hd (fun x hx => by
        have := h x hx
        have : x ≠ n := fun e => hm (e ▸ hx)
        omega)
      omega
/-- a function on the first n + 1 numbers into the n first ones takes one value twice -/
theorem pigeon (n : Nat) (f : Nat → Nat) (h : ∀ i, i ≤ n → f i < n) : ∃ i j, i < j ∧ j ≤ n ∧ f i = f j := by
  apply Classical.byContradiction
  intro hn
  have hd : ((List.range (n + 1)).map f).Nodup := by
    rw [List.nodup_iff_pairwise_ne, List.pairwise_map]
    refine List.Pairwise.imp_of_mem ?_ List.pairwise_lt_range
    intro a b ha hb hab e
    exact hn ⟨a, b, hab, by have := List.mem_range.mp hb; omega, e⟩
  have := few_below n _ hd (fun x hx => by
    obtain ⟨i, hi, rfl⟩ := List.mem_map.mp hx
    exact h i (by have := List.mem_range.mp hi; omega))
  rw [List.length_map, List.length_range] at this
  omega
section
variable (fs ps : List Nat) (n : Nat)
/-- the whole way from an end: along the join, along the couple, and so on until a lower end -/
inductive Trail : Nat → List Nat → Prop
  | stop {z : Nat} : n ≤ fs.getD z 0 → Trail z [z, fs.getD z 0]
  | go {z : Nat} {l : List Nat} : fs.getD z 0 < n → Trail (ps.getD (fs.getD z 0) 0) l → Trail z (z :: fs.getD z 0 :: l)
/-- where the steps of a way begin -/
def hop (z : Nat) : Nat → Nat
  | 0 => z
  | k + 1 => ps.getD (fs.getD (hop z k) 0) 0
end
theorem IsPair.d {n : Nat} {ps : List Nat} (h : IsPair n ps) {x : Nat} (hx : x < n) : ps.getD x 0 < n ∧ ps.getD x 0 ≠ x ∧ ps.getD (ps.getD x 0) 0 = x ∧ ps[x]? = some (ps.getD x 0) := by
  obtain ⟨y, h1, h2, h3, h4⟩ := h.par x hx
  rw [getD_of h1]
  exact ⟨h2, h3, getD_of h4, h1⟩
theorem IsPair.inj {n : Nat} {ps : List Nat} (h : IsPair n ps) {x y : Nat} (hx : x < n) (hy : y < n) (e : ps.getD x 0 = ps.getD y 0) : x = y := by
  rw [← (h.d hx).2.2.1, ← (h.d hy).2.2.1, e]
theorem Trail.det {fs ps : List Nat} {n z : Nat} {l m : List Nat} (h : Trail fs ps n z l) : Trail fs ps n z m → l = m := by
  induction h generalizing m with
  | stop h1 => intro h; cases h with
    | stop _ => rfl
    | go h2 _ => omega
  | go h1 _ ih => intro h; cases h with
    | stop h2 => omega
    | go _ h3 => rw [ih h3]
theorem Trail.len {fs ps : List Nat} {n z : Nat} {l : List Nat} (h : Trail fs ps n z l) : 2 ≤ l.length ∧ l.length % 2 = 0 ∧ n ≤ l.getLastD 0 := by
  induction h with
  | stop h1 => exact ⟨Nat.le_refl _, by simp only [List.length_cons, List.length_nil], h1⟩
  | @go z l h1 _ ih =>
    refine ⟨by simp only [List.length_cons]; omega, by simp only [List.length_cons]; omega, ?_⟩
    cases l with
    | nil => exact absurd ih.1 (by decide)
    | cons a r => exact ih.2.2
theorem hop_step (fs ps : List Nat) (z k : Nat) : hop fs ps (ps.getD (fs.getD z 0) 0) k = hop fs ps z (k + 1) := by
  induction k with
  | zero => rfl
  | succ k ih => rw [hop, ih]; rfl
theorem trail_of {fs ps : List Nat} {n : Nat} : ∀ (m z : Nat), n ≤ fs.getD (hop fs ps z m) 0 → ∃ l, Trail fs ps n z l ∧ l.length ≤ 2 * m + 2
  | 0, z, h => ⟨_, .stop h, Nat.le_refl _⟩
  | m + 1, z, h => by
    by_cases c : fs.getD z 0 < n
    · obtain ⟨l, h1, h2⟩ := trail_of m (ps.getD (fs.getD z 0) 0) (by rw [hop_step]; exact h)
      exact ⟨_, .go c h1, by simp only [List.length_cons]; omega⟩
    · exact ⟨_, .stop (by omega), by simp only [List.length_cons, List.length_nil]; omega⟩
/-- every way from a lower end comes to a lower end -/
theorem trail_ex {fs ps : List Nat} {n : Nat} (hF : IsPair (2 * n) fs) (hP : IsPair n ps) {z : Nat} (hz : n ≤ z) (hz2 : z < 2 * n) : ∃ l, Trail fs ps n z l ∧ l.length ≤ 2 * n + 2 := by
  apply Classical.byContradiction
  intro hn
  have small : ∀ k, k ≤ n → fs.getD (hop fs ps z k) 0 < n := fun k hk => by
    apply Classical.byContradiction
    intro h
    obtain ⟨l, h1, h2⟩ := trail_of (fs := fs) (ps := ps) (n := n) k z (by omega)
    exact hn ⟨l, h1, by omega⟩
  have hl : ∀ k, k ≤ n → hop fs ps z k < 2 * n ∧ (0 < k → hop fs ps z k < n) := fun k hk => by
    cases k with
    | zero => exact ⟨hz2, fun h => absurd h (Nat.lt_irrefl _)⟩
    | succ k =>
      have := (hP.d (small k (by omega))).1
      exact ⟨by show ps.getD _ 0 < 2 * n; omega, fun _ => this⟩
  have diff : ∀ i j, i < j → j ≤ n → hop fs ps z i ≠ hop fs ps z j := fun i => by
    induction i with
    | zero =>
      intro j hj hn2 e
      have := (hl j hn2).2 hj
      have e' : z = hop fs ps z j := e
      omega
    | succ i ih =>
      intro j hj hn2 e
      cases j with
      | zero => omega
      | succ j =>
        have e1 : fs.getD (hop fs ps z i) 0 = fs.getD (hop fs ps z j) 0 := hP.inj (small i (by omega)) (small j (by omega)) e
        exact ih j (by omega) (by omega) (hF.inj (hl i (by omega)).1 (hl j (by omega)).1 e1)
  obtain ⟨i, j, h1, h2, h3⟩ := pigeon n (fun k => fs.getD (hop fs ps z k) 0) small
  exact diff i j h1 h2 (hF.inj (hl i (by omega)).1 (hl j h2).1 h3)
/-- the way of a lower end, and where it ends -/
noncomputable def trl (fs ps : List Nat) (n z : Nat) : List Nat := open Classical in if h : ∃ l, Trail fs ps n z l then h.choose else []
noncomputable def far (fs ps : List Nat) (n z : Nat) : Nat := (trl fs ps n z).getLastD 0
theorem Trail.eq {fs ps : List Nat} {n z : Nat} {l : List Nat} (h : Trail fs ps n z l) : trl fs ps n z = l := by
  unfold trl
  rw [dif_pos ⟨l, h⟩]
  exact (Exists.choose_spec (⟨l, h⟩ : ∃ l, Trail fs ps n z l)).det h
theorem trl_trail {fs ps : List Nat} {n : Nat} (hF : IsPair (2 * n) fs) (hP : IsPair n ps) {z : Nat} (hz : n ≤ z) (hz2 : z < 2 * n) : Trail fs ps n z (trl fs ps n z) ∧ (trl fs ps n z).length ≤ 2 * n + 2 := by
  obtain ⟨l, h1, h2⟩ := trail_ex hF hP hz hz2
  rw [h1.eq]; exact ⟨h1, h2⟩
/-- what is read -/
noncomputable def rd (fs ps : List Nat) (n : Nat) : List Nat := (List.range n).map fun x => far fs ps n (n + x) - n
end Pc
namespace Pc
theorem lastc {l : List Nat} (h : 2 ≤ l.length) (a b d : Nat) : (a :: b :: l).getLastD d = l.getLastD d := by
  cases l with
  | nil => exact absurd h (by decide)
  | cons x r => rfl
theorem Trail.last {fs ps : List Nat} {n z : Nat} {l : List Nat} (hF : IsPair (2 * n) fs) (hP : IsPair n ps) (h : Trail fs ps n z l) : z < 2 * n → l.getLastD 0 < 2 * n := by
  induction h with
  | @stop z h1 => intro hz; exact (hF.d hz).1
  | @go z l h1 h2 ih =>
    intro hz
    rw [lastc h2.len.1]
    have := (hP.d h1).1
    exact ih (by omega)
theorem Trail.rev {fs ps : List Nat} {n z : Nat} {l : List Nat} (hF : IsPair (2 * n) fs) (hP : IsPair n ps) (h : Trail fs ps n z l) : z < 2 * n → ∀ t : List Nat, (n ≤ z → t = []) → (z < n → Trail fs ps n (ps.getD z 0) t) → Trail fs ps n (l.getLastD 0) (l.reverse ++ t) := by
  have one : ∀ {z : Nat} {t : List Nat}, z < 2 * n → (n ≤ z → t = []) → (z < n → Trail fs ps n (ps.getD z 0) t) → Trail fs ps n (fs.getD z 0) (fs.getD z 0 :: z :: t) := fun {z t} hz h1 h2 => by
    have e := (hF.d hz).2.2.1
    by_cases c : z < n
    · have := Trail.go (fs := fs) (ps := ps) (n := n) (z := fs.getD z 0) (l := t) (by rw [e]; exact c) (by rw [e]; exact h2 c)
      rw [e] at this; exact this
    · rw [h1 (by omega)]
      have := Trail.stop (fs := fs) (ps := ps) (n := n) (z := fs.getD z 0) (by rw [e]; omega)
      rw [e] at this; exact this
  induction h with
  | @stop z h1 => intro hz t a b; exact one hz a b
  | @go z l h1 h2 ih =>
    intro hz t a b
    have hz' := hP.d h1
    rw [lastc h2.len.1]
    have := ih (by omega) (fs.getD z 0 :: z :: t) (fun x => by omega) (fun _ => by rw [hz'.2.2.1]; exact one hz a b)
    simp only [List.reverse_cons, List.append_assoc, List.cons_append, List.nil_append]
    exact this
theorem Trail.back {fs ps : List Nat} {n z : Nat} {l : List Nat} (hF : IsPair (2 * n) fs) (hP : IsPair n ps) (h : Trail fs ps n z l) (hz : n ≤ z) (hz2 : z < 2 * n) : Trail fs ps n (l.getLastD 0) l.reverse := by
  have := h.rev hF hP hz2 [] (fun _ => rfl) (fun h => by omega)
  rw [List.append_nil] at this; exact this
theorem Trail.head {fs ps : List Nat} {n z : Nat} {l : List Nat} (h : Trail fs ps n z l) : l[0]? = some z := by
  cases h <;> rfl
theorem Trail.adj {fs ps : List Nat} {n z : Nat} {l : List Nat} (hF : IsPair (2 * n) fs) (hP : IsPair n ps) (h : Trail fs ps n z l) : z < 2 * n → ∀ i x, l[i]? = some x → l[i + 1]? ≠ some x := by
  induction h with
  | @stop z h1 =>
    intro hz i x h1 h2
    have hi : i + 1 < 2 := get_lt h2
    have : i = 0 := by omega
    subst this
    have e1 : z = x := Option.some.inj h1
    have e2 : fs.getD z 0 = x := Option.some.inj h2
    exact (hF.d hz).2.1 (e2.trans e1.symm)
  | @go z l h1 h2 ih =>
    intro hz i x g1 g2
    have hz' := hP.d h1
    cases i with
    | zero =>
      have e1 : z = x := Option.some.inj g1
      have e2 : fs.getD z 0 = x := Option.some.inj g2
      exact (hF.d hz).2.1 (e2.trans e1.symm)
    | succ i =>
      cases i with
      | zero =>
        have e1 : fs.getD z 0 = x := Option.some.inj g1
        have e2 : some (ps.getD (fs.getD z 0) 0) = some x := h2.head.symm.trans g2
        exact hz'.2.1 ((Option.some.inj e2).trans e1.symm)
      | succ i => exact ih (by omega) i x g1 g2
theorem last_get {l : List Nat} (h : 0 < l.length) : l[l.length - 1]? = some (l.getLastD 0) := by
  cases l with
  | nil => exact absurd h (by decide)
  | cons a r => rw [← List.getLast?_eq_getElem?, List.getLast?_eq_some_getLast (List.cons_ne_nil a r), List.getLastD_cons, ← List.getLast_eq_getLastD (h := List.cons_ne_nil a r)]
theorem far_is {fs ps : List Nat} {n z : Nat} {l : List Nat} (h : Trail fs ps n z l) : far fs ps n z = l.getLastD 0 := by
  unfold far; rw [h.eq]
theorem far_d {fs ps : List Nat} {n : Nat} (hF : IsPair (2 * n) fs) (hP : IsPair n ps) {z : Nat} (hz : n ≤ z) (hz2 : z < 2 * n) : n ≤ far fs ps n z ∧ far fs ps n z < 2 * n ∧ far fs ps n (far fs ps n z) = z ∧ far fs ps n z ≠ z := by
  obtain ⟨l, h1, _⟩ := trail_ex hF hP hz hz2
  have hb := h1.back hF hP hz hz2
  have hl := h1.len
  have e := far_is h1
  have e2 := far_is hb
  rw [e, e2]
  refine ⟨hl.2.2, h1.last hF hP hz2, ?_, fun c => ?_⟩
  · have g := last_get (l := l.reverse) (by rw [List.length_reverse]; omega)
    rw [List.length_reverse, List.getElem?_reverse (by omega), show l.length - 1 - (l.length - 1) = 0 by omega, h1.head] at g
    exact (Option.some.inj g).symm
  · rw [c] at hb
    have e3 : l = l.reverse := h1.det hb
    obtain ⟨k, hk⟩ : ∃ k, l.length = 2 * k := ⟨l.length / 2, by omega⟩
    have g1 : l[k - 1]? = l[k]? := by
      have g : l[k - 1]? = l.reverse[k - 1]? := congrArg (fun (m : List Nat) => m[k - 1]?) e3
      rw [List.getElem?_reverse (by omega), show l.length - 1 - (k - 1) = k by omega] at g
      exact g
    have lt : k - 1 < l.length := by omega
    exact h1.adj hF hP hz2 (k - 1) l[k - 1] (List.getElem?_eq_getElem lt) (by rw [show k - 1 + 1 = k by omega, ← g1]; exact List.getElem?_eq_getElem lt)
theorem rd_len (fs ps : List Nat) (n : Nat) : (rd fs ps n).length = n := by unfold rd; rw [List.length_map, List.length_range]
theorem rd_get (fs ps : List Nat) {n x : Nat} (h : x < n) : (rd fs ps n)[x]? = some (far fs ps n (n + x) - n) := by
  unfold rd; rw [List.getElem?_map, List.getElem?_range h]; rfl
theorem rd_pair {fs ps : List Nat} {n : Nat} (hF : IsPair (2 * n) fs) (hP : IsPair n ps) : IsPair n (rd fs ps n) := by
  refine ⟨rd_len _ _ _, fun x hx => ?_⟩
  obtain ⟨h1, h2, h3, h4⟩ := far_d hF hP (z := n + x) (by omega) (by omega)
  refine ⟨_, rd_get fs ps hx, by omega, by omega, ?_⟩
  rw [rd_get fs ps (by omega), show n + (far fs ps n (n + x) - n) = far fs ps n (n + x) by omega, h3, show n + x - n = x by omega]
/-- a sheet that differs only at four ends -/
structure Near (fs gs : List Nat) (n A B c d : Nat) : Prop where
  la : n ≤ A
  lb : n ≤ B
  ab : A ≠ B
  fc : fs.getD c 0 = A
  un : ∀ z, fs.getD z 0 = A → z = c
  fd : fs.getD d 0 = B
  fb : fs.getD B 0 = d
  gc : gs.getD c 0 = d
  eq : ∀ z, z ≠ A → z ≠ B → z ≠ c → z ≠ d → gs.getD z 0 = fs.getD z 0
theorem Trail.near {fs gs ps : List Nat} {n A B c d z : Nat} {l : List Nat} (hP : IsPair n ps) (N : Near fs gs n A B c d) (h : Trail fs ps n z l) : z ≠ A → z ≠ B → l.getLastD 0 ≠ A → l.getLastD 0 ≠ B → Trail gs ps n z l := by
  have la := N.la
  have lb := N.lb
  induction h with
  | @stop z h1 =>
    intro hA hB eA eB
    have e : gs.getD z 0 = fs.getD z 0 := N.eq z hA hB (fun e => eA (by rw [e]; exact N.fc)) (fun e => eB (by rw [e]; exact N.fd))
    rw [← e]; exact .stop (by rw [e]; exact h1)
  | @go z l h1 h2 ih =>
    intro hA hB eA eB
    rw [lastc h2.len.1] at eA eB
    have e : gs.getD z 0 = fs.getD z 0 := N.eq z hA hB (fun e => by rw [e, N.fc] at h1; omega) (fun e => by rw [e, N.fd] at h1; omega)
    have hz' := (hP.d h1).1
    have t := ih (by omega) (by omega) eA eB
    rw [← e] at h1 t ⊢
    exact .go h1 t
theorem Trail.over {fs gs ps : List Nat} {n A B c d z : Nat} {l m : List Nat} (hP : IsPair n ps) (N : Near fs gs n A B c d) (hm : Trail fs ps n B m) (mA : m.getLastD 0 ≠ A) (mB : m.getLastD 0 ≠ B) (h : Trail fs ps n z l) : z ≠ A → z ≠ B → l.getLastD 0 = A → ∃ k, Trail gs ps n z k ∧ k.getLastD 0 = m.getLastD 0 := by
  have la := N.la
  have lb := N.lb
  have fb := N.fb
  induction h with
  | @stop z h1 =>
    intro hA hB eA
    by_cases zc : z = c
    · subst zc
      cases hm with
      | stop h => 
        refine ⟨_, .stop (by rw [N.gc, ← fb]; exact h), ?_⟩
        rw [N.gc, ← fb]; rfl
      | @go _ m h h2 =>
        rw [lastc h2.len.1] at mA mB ⊢
        rw [fb] at h h2
        have := hP.d h
        refine ⟨_, .go (by rw [N.gc]; exact h) (by rw [N.gc]; exact h2.near hP N (by omega) (by omega) mA mB), ?_⟩
        rw [lastc h2.len.1]
    · exact absurd (N.un z eA) zc
  | @go z l h1 h2 ih =>
    intro hA hB eA
    rw [lastc h2.len.1] at eA
    have e : gs.getD z 0 = fs.getD z 0 := N.eq z hA hB (fun e => by rw [e, N.fc] at h1; omega) (fun e => by rw [e, N.fd] at h1; omega)
    have hz' := (hP.d h1).1
    obtain ⟨k, t1, t2⟩ := ih (by omega) (by omega) eA
    rw [← e] at h1 t1
    refine ⟨_, .go h1 t1, ?_⟩
    rw [lastc t1.len.1]; exact t2

theorem jn_near {fs : List Nat} {n A B : Nat} (hF : IsPair (2 * n) fs) (hA : n ≤ A) (hB : n ≤ B) (hA2 : A < 2 * n) (hB2 : B < 2 * n) (hab : A ≠ B) (hc : fs.getD A 0 ≠ B) : Near fs (jn fs A B) n A B (fs.getD A 0) (fs.getD B 0) ∧ Near fs (jn fs A B) n B A (fs.getD B 0) (fs.getD A 0) ∧ (jn fs A B).getD A 0 = B ∧ (jn fs A B).getD B 0 = A := by
  obtain ⟨a1, a2, a3, a4⟩ := hF.d hA2
  obtain ⟨b1, b2, b3, b4⟩ := hF.d hB2
  have G := jn_get hF hab a4 b4 hc
  obtain ⟨x1, x2, x3, x4, _⟩ := four hF hab a4 b4 hc
  have D : ∀ z, (jn fs A B).getD z 0 = ((jn fs A B)[z]?).getD 0 := fun z => List.getD_eq_getElem?_getD
  have un : ∀ {X : Nat}, n ≤ X → X < 2 * n → ∀ z, fs.getD z 0 = X → z = fs.getD X 0 := fun {X} h1 h2 z e => by
    by_cases hz : z < 2 * n
    · rw [← e, (hF.d hz).2.2.1]
    · rw [List.getD_eq_getElem?_getD, List.getElem?_eq_none (by rw [hF.len]; omega)] at e
      have e' : 0 = X := e
      omega
  have E : ∀ z, z ≠ A → z ≠ B → z ≠ fs.getD A 0 → z ≠ fs.getD B 0 → (jn fs A B).getD z 0 = fs.getD z 0 := fun z h1 h2 h3 h4 => by
    rw [D, G, if_neg h1, if_neg h2, if_neg h3, if_neg h4, ← List.getD_eq_getElem?_getD]
  refine ⟨⟨hA, hB, hab, a3, un hA hA2, b3, rfl, ?_, E⟩, ⟨hB, hA, hab.symm, b3, un hB hB2, a3, rfl, ?_, fun z h1 h2 h3 h4 => E z h2 h1 h4 h3⟩, ?_, ?_⟩
  · rw [D, G, if_neg x1, if_neg hc, if_pos rfl]; rfl
  · rw [D, G, if_neg x3, if_neg x2, if_neg (Ne.symm x4), if_pos rfl]; rfl
  · rw [D, G, if_pos rfl]; rfl
  · rw [D, G, if_neg hab.symm, if_pos rfl]; rfl
theorem IsPair.ofd {fs : List Nat} {n x y : Nat} (h : IsPair n fs) (hx : x < n) (e : fs.getD x 0 = y) : fs[x]? = some y := by
  rw [← e]; exact (h.d hx).2.2.2
/-- a call added to a sheet is a call behind what is read -/
theorem rd_jn {fs ps : List Nat} {n a b : Nat} (hF : IsPair (2 * n) fs) (hP : IsPair n ps) (hab : a ≠ b) (ha : a < n) (hb : b < n) : rd (jn fs (n + a) (n + b)) ps n = jn (rd fs ps n) a b := by
  have hR := rd_pair hF hP
  by_cases hc : fs.getD (n + a) 0 = n + b
  · rw [jn_same (hF.ofd (by omega) hc)]
    have t : Trail fs ps n (n + a) [n + a, n + b] := by
      have := Trail.stop (fs := fs) (ps := ps) (n := n) (z := n + a) (by rw [hc]; omega)
      rw [hc] at this; exact this
    refine (jn_same ?_).symm
    rw [rd_get fs ps ha, far_is t]
    show some (n + b - n) = some b
    rw [Nat.add_sub_cancel_left]
  · obtain ⟨N1, N2, gA, gB⟩ := jn_near hF (A := n + a) (B := n + b) (by omega) (by omega) (by omega) (by omega) (by omega) hc
    have hF' : IsPair (2 * n) (jn fs (n + a) (n + b)) := jn_pair hF (by omega) (by omega) (by omega)
    have fA := far_d hF hP (z := n + a) (by omega) (by omega)
    have fB := far_d hF hP (z := n + b) (by omega) (by omega)
    have tA : Trail (jn fs (n + a) (n + b)) ps n (n + a) [n + a, n + b] := by
      have := Trail.stop (fs := jn fs (n + a) (n + b)) (ps := ps) (n := n) (z := n + a) (by rw [gA]; omega)
      rw [gA] at this; exact this
    have tB : Trail (jn fs (n + a) (n + b)) ps n (n + b) [n + b, n + a] := by
      have := Trail.stop (fs := jn fs (n + a) (n + b)) (ps := ps) (n := n) (z := n + b) (by rw [gB]; omega)
      rw [gB] at this; exact this
    obtain ⟨lA, hlA, _⟩ := trail_ex hF hP (z := n + a) (by omega) (by omega)
    obtain ⟨lB, hlB, _⟩ := trail_ex hF hP (z := n + b) (by omega) (by omega)
    have eA := far_is hlA
    have eB := far_is hlB
    have ga := rd_get fs ps ha
    have gb := rd_get fs ps hb
    refine List.ext_getElem? fun x => ?_
    by_cases hx : x < n
    · rw [rd_get _ ps hx]
      have fX := far_d hF hP (z := n + x) (by omega) (by omega)
      obtain ⟨lX, hlX, _⟩ := trail_ex hF hP (z := n + x) (by omega) (by omega)
      have eX := far_is hlX
      by_cases xa : x = a
      · subst xa
        rw [far_is tA, show [n + x, n + b].getLastD 0 - n = b by show n + b - n = b; omega]
        by_cases c : far fs ps n (n + x) - n = b
        · rw [jn_same (by rw [rd_get fs ps hx, c]), rd_get fs ps hx, c]
        · rw [jn_get hR hab ga gb c, if_pos rfl]
      · by_cases xb : x = b
        · subst xb
          rw [far_is tB, show [n + x, n + a].getLastD 0 - n = a by show n + a - n = a; omega]
          by_cases c : far fs ps n (n + a) - n = x
          · rw [jn_same (by rw [rd_get fs ps ha, c]), rd_get fs ps hx, show n + x = far fs ps n (n + a) by omega, fA.2.2.1, Nat.add_sub_cancel_left]
          · rw [jn_get hR hab ga gb c, if_neg (Ne.symm hab), if_pos rfl]
        · by_cases yA : far fs ps n (n + x) = n + a
          · -- the way of x came to a
            have e1 : far fs ps n (n + a) = n + x := by rw [← yA]; exact fX.2.2.1
            have e2 : far fs ps n (n + b) ≠ n + a := fun z => by
              have := fB.2.2.1
              rw [z, e1] at this; omega
            obtain ⟨k, k1, k2⟩ := Trail.over hP N1 hlB (by rw [← eB]; exact e2) (by rw [← eB]; exact fB.2.2.2) hlX (by omega) (by omega) (by rw [← eX]; exact yA)
            rw [far_is k1, k2, ← eB, jn_get hR hab ga gb (by omega), if_neg xa, if_neg xb, if_pos (by omega)]
          · by_cases yB : far fs ps n (n + x) = n + b
            · have e1 : far fs ps n (n + b) = n + x := by rw [← yB]; exact fX.2.2.1
              have e2 : far fs ps n (n + a) ≠ n + b := fun z => by
                have := fA.2.2.1
                rw [z, e1] at this; omega
              obtain ⟨k, k1, k2⟩ := Trail.over hP N2 hlA (by rw [← eA]; exact e2) (by rw [← eA]; exact fA.2.2.2) hlX (by omega) (by omega) (by rw [← eX]; exact yB)
              have e3 : far fs ps n (n + a) ≠ n + x := fun z => by
                have := fA.2.2.1
                rw [z, yB] at this; omega
              rw [far_is k1, k2, ← eA, jn_get hR hab ga gb (by omega), if_neg xa, if_neg xb, if_neg (by omega), if_pos (by omega)]
            · have t := hlX.near hP N1 (by omega) (by omega) (by rw [← eX]; exact yA) (by rw [← eX]; exact yB)
              rw [far_is t, ← eX, ← rd_get fs ps hx]
              by_cases c : far fs ps n (n + a) - n = b
              · rw [jn_same (by rw [rd_get fs ps ha, c])]
              · have e1 : far fs ps n (n + a) ≠ n + x := fun z => by
                  have := fA.2.2.1
                  rw [z] at this; exact yA this
                have e2 : far fs ps n (n + b) ≠ n + x := fun z => by
                  have := fB.2.2.1
                  rw [z] at this; exact yB this
                rw [jn_get hR hab ga gb c, if_neg xa, if_neg xb, if_neg (by omega), if_neg (by omega)]
    · rw [List.getElem?_eq_none (by rw [rd_len]; omega), List.getElem?_eq_none (by rw [jn_len, rd_len]; omega)]
end Pc
namespace Pc
theorem rd_emp {ps : List Nat} {n : Nat} (hn : 0 < n) (hP : IsPair n ps) : rd (emp n) ps n = ps := by
  refine List.ext_getElem? fun x => ?_
  by_cases hx : x < n
  · obtain ⟨h1, _, _, h4⟩ := hP.d hx
    have e1 : (emp n).getD (n + x) 0 = x := getD_of (emp_hi hx)
    have e2 : (emp n).getD (ps.getD x 0) 0 = n + ps.getD x 0 := getD_of (emp_lo h1)
    have t2 := Trail.stop (fs := emp n) (ps := ps) (n := n) (z := ps.getD x 0) (by rw [e2]; omega)
    have t := Trail.go (fs := emp n) (ps := ps) (n := n) (z := n + x) (by rw [e1]; exact hx) (by rw [e1]; exact t2)
    rw [rd_get _ ps hx, far_is t, h4]
    show some ((emp n).getD (ps.getD x 0) 0 - n) = _
    rw [e2, Nat.add_sub_cancel_left]
  · rw [List.getElem?_eq_none (by rw [rd_len]; omega), List.getElem?_eq_none (by rw [hP.len]; omega)]
theorem rd_runs {n : Nat} {ps : List Nat} (hP : IsPair n ps) : ∀ (qs : List (Nat × Nat)) {fs : List Nat}, IsPair (2 * n) fs → Calls n qs → rd (shw n qs fs) ps n = runs qs (rd fs ps n)
  | [], _, _, _ => rfl
  | q :: r, fs, hF, hc => by
    have h1 := hc q List.mem_cons_self
    have h2 := rd_runs hP r (jn_pair hF (a := n + q.1) (b := n + q.2) (by omega) (by omega) (by omega)) (fun x hx => hc x (List.mem_cons_of_mem _ hx))
    rw [rd_jn hF hP (by omega) (by omega) h1.2] at h2
    exact h2
/-- guarantee (a) -/
theorem rd_word {n : Nat} {ps : List Nat} {qs : List (Nat × Nat)} (hn : 0 < n) (hP : IsPair n ps) (hc : Calls n qs) : rd (shw n qs (emp n)) ps n = runs qs ps := by
  rw [rd_runs hP qs (emp_pair hn) hc, rd_emp hn hP]
end Pc
namespace Pc
/-! ### walks along layers: a layer of m upper and n lower ends joins them in pairs -/
section
variable {S Y : Type} (step : S → S ⊕ Y)
inductive Ends : S → Y → Prop
  | stop {s : S} {y : Y} : step s = .inr y → Ends s y
  | go {s t : S} {y : Y} : step s = .inl t → Ends t y → Ends s y
/-- where a walk is after i steps -/
def itr (s : S) : Nat → S
  | 0 => s
  | i + 1 => match step (itr s i) with
    | .inl t => t
    | .inr _ => itr s i
end
theorem Ends.det {S Y : Type} {step : S → S ⊕ Y} {s : S} {x y : Y} (h : Ends step s x) : Ends step s y → x = y := by
  induction h with
  | stop h1 => intro h; cases h with
    | stop h2 => rw [h1] at h2; exact Sum.inr.inj h2
    | go h2 _ => rw [h1] at h2; cases h2
  | go h1 _ ih => intro h; cases h with
    | stop h2 => rw [h1] at h2; cases h2
    | go h2 h3 => rw [h1] at h2; cases h2; exact ih h3
theorem itr_step {S Y : Type} {step : S → S ⊕ Y} {s t : S} (h : step s = .inl t) : ∀ i, itr step t i = itr step s (i + 1)
  | 0 => by show t = (match step s with | .inl t => t | .inr _ => s); rw [h]
  | i + 1 => by
    show (match step (itr step t i) with | .inl t => t | .inr _ => itr step t i) = (match step (itr step s (i + 1)) with | .inl t => t | .inr _ => itr step s (i + 1))
    rw [itr_step h i]
theorem itr_succ {S Y : Type} {step : S → S ⊕ Y} {s t : S} {i : Nat} (h : step (itr step s i) = .inl t) : itr step s (i + 1) = t := by
  show (match step (itr step s i) with | .inl t => t | .inr _ => itr step s i) = t
  rw [h]
theorem Ends.nth {S Y : Type} {step : S → S ⊕ Y} {s : S} {y : Y} (h : Ends step s y) : ∃ m, (∀ i, i < m → step (itr step s i) = .inl (itr step s (i + 1))) ∧ step (itr step s m) = .inr y := by
  induction h with
  | stop h => exact ⟨0, fun i hi => absurd hi (Nat.not_lt_zero _), h⟩
  | go h _ ih =>
    obtain ⟨m, h1, h2⟩ := ih
    refine ⟨m + 1, fun i hi => ?_, by rw [← itr_step h]; exact h2⟩
    cases i with
    | zero => rw [← itr_step h 0]; exact h
    | succ i =>
      have := h1 i (by omega)
      rw [itr_step h, itr_step h] at this; exact this
theorem ends_of {S Y : Type} {step : S → S ⊕ Y} : ∀ (m : Nat) (s : S) (y : Y), step (itr step s m) = .inr y → ∃ z, Ends step s z
  | 0, s, y, h => ⟨y, .stop h⟩
  | m + 1, s, y, h => by
    cases e : step s with
    | inr z => exact ⟨z, .stop e⟩
    | inl t =>
      obtain ⟨z, hz⟩ := ends_of m t y (by rw [itr_step e]; exact h)
      exact ⟨z, .go e hz⟩
/-- the step of a walk along a layer f, of m and n ends, and a layer g behind it -/
def cstep (f g : List Nat) (m n : Nat) : Bool × Nat → (Bool × Nat) ⊕ Nat
  | (true, z) => if f.getD z 0 < m then .inr (f.getD z 0) else .inl (false, f.getD z 0 - m)
  | (false, z) => if g.getD z 0 < n then .inl (true, m + g.getD z 0) else .inr (m + (g.getD z 0 - n))
def cst (m n e : Nat) : Bool × Nat := if e < m then (true, e) else (false, n + (e - m))
theorem cs_tl {f g : List Nat} {m n z : Nat} (h : f.getD z 0 < m) : cstep f g m n (true, z) = .inr (f.getD z 0) := if_pos h
theorem cs_tg {f g : List Nat} {m n z : Nat} (h : m ≤ f.getD z 0) : cstep f g m n (true, z) = .inl (false, f.getD z 0 - m) := if_neg (by omega)
theorem cs_fl {f g : List Nat} {m n z : Nat} (h : g.getD z 0 < n) : cstep f g m n (false, z) = .inl (true, m + g.getD z 0) := if_pos h
theorem cs_fg {f g : List Nat} {m n z : Nat} (h : n ≤ g.getD z 0) : cstep f g m n (false, z) = .inr (m + (g.getD z 0 - n)) := if_neg (by omega)
def opp (f g : List Nat) : Bool × Nat → Bool × Nat
  | (true, z) => (true, f.getD z 0)
  | (false, z) => (false, g.getD z 0)
/-- the states of a walk -/
def Val (m n k : Nat) : Bool × Nat → Prop
  | (true, z) => z < m + n
  | (false, z) => z < n + k
section
variable {f g : List Nat} {m n k : Nat} (hf : IsPair (m + n) f) (hg : IsPair (n + k) g)
include hf hg
theorem cs_val {s t : Bool × Nat} (hs : Val m n k s) (h : cstep f g m n s = .inl t) : Val m n k t ∧ (t = (true, t.2) ∧ m ≤ t.2 ∨ t = (false, t.2) ∧ t.2 < n) ∧ t.1 = !s.1 ∧ cstep f g m n (opp f g t) = .inl (opp f g s) := by
  obtain ⟨b, z⟩ := s
  cases b with
  | true =>
    have hz : z < m + n := hs
    by_cases c : f.getD z 0 < m
    · rw [cs_tl c] at h; cases h
    · rw [cs_tg (by omega)] at h
      cases h
      have := hf.d hz
      have hx : f.getD z 0 - m < n + k := by omega
      have gx := hg.d hx
      refine ⟨hx, .inr ⟨rfl, by show f.getD z 0 - m < n; omega⟩, rfl, ?_⟩
      show cstep f g m n (false, g.getD (f.getD z 0 - m) 0) = .inl (true, f.getD z 0)
      rw [cs_fl (by rw [gx.2.2.1]; omega), gx.2.2.1, show m + (f.getD z 0 - m) = f.getD z 0 by omega]
  | false =>
    have hz : z < n + k := hs
    by_cases c : g.getD z 0 < n
    · rw [cs_fl c] at h
      cases h
      have hx : m + g.getD z 0 < m + n := by omega
      have fx := hf.d hx
      refine ⟨hx, .inl ⟨rfl, by show m ≤ m + g.getD z 0; omega⟩, rfl, ?_⟩
      show cstep f g m n (true, f.getD (m + g.getD z 0) 0) = .inl (false, g.getD z 0)
      rw [cs_tg (by rw [fx.2.2.1]; omega), fx.2.2.1, show m + g.getD z 0 - m = g.getD z 0 by omega]
    · rw [cs_fg (by omega)] at h; cases h
theorem opp_opp {s : Bool × Nat} (hs : Val m n k s) : opp f g (opp f g s) = s ∧ opp f g s ≠ s ∧ (opp f g s).1 = s.1 ∧ Val m n k (opp f g s) := by
  obtain ⟨b, z⟩ := s
  cases b with
  | true =>
    have := hf.d (show z < m + n from hs)
    exact ⟨by show (true, f.getD (f.getD z 0) 0) = (true, z); rw [this.2.2.1], fun e => this.2.1 (congrArg Prod.snd e), rfl, this.1⟩
  | false =>
    have := hg.d (show z < n + k from hs)
    exact ⟨by show (false, g.getD (g.getD z 0) 0) = (false, z); rw [this.2.2.1], fun e => this.2.1 (congrArg Prod.snd e), rfl, this.1⟩
theorem cs_inj {s t u : Bool × Nat} (hs : Val m n k s) (ht : Val m n k t) (h1 : cstep f g m n s = .inl u) (h2 : cstep f g m n t = .inl u) : s = t := by
  have a := (cs_val hf hg hs h1).2.2.2
  have b := (cs_val hf hg ht h2).2.2.2
  rw [a] at b
  have e : opp f g s = opp f g t := Sum.inl.inj b
  rw [← (opp_opp hf hg hs).1, e, (opp_opp hf hg ht).1]
theorem cs_end {s : Bool × Nat} {y : Nat} (hs : Val m n k s) (h : cstep f g m n s = .inr y) : cst m n y = opp f g s ∧ y < m + k := by
  obtain ⟨b, z⟩ := s
  cases b with
  | true =>
    by_cases c : f.getD z 0 < m
    · rw [cs_tl c] at h; cases h
      refine ⟨?_, by omega⟩
      unfold cst; rw [if_pos c]; rfl
    · rw [cs_tg (by omega)] at h; cases h
  | false =>
    have := hg.d (show z < n + k from hs)
    by_cases c : g.getD z 0 < n
    · rw [cs_fl c] at h; cases h
    · rw [cs_fg (by omega)] at h; cases h
      refine ⟨?_, by omega⟩
      unfold cst; rw [if_neg (by omega), show n + (m + (g.getD z 0 - n) - m) = g.getD z 0 by omega]; rfl
theorem cst_val {e : Nat} (he : e < m + k) : Val m n k (cst m n e) ∧ cstep f g m n (opp f g (cst m n e)) = .inr e := by
  unfold cst
  by_cases c : e < m
  · rw [if_pos c]
    have := hf.d (show e < m + n by omega)
    refine ⟨show e < m + n by omega, ?_⟩
    show cstep f g m n (true, f.getD e 0) = .inr e
    rw [cs_tl (by rw [this.2.2.1]; exact c), this.2.2.1]
  · rw [if_neg c]
    have := hg.d (show n + (e - m) < n + k by omega)
    refine ⟨show n + (e - m) < n + k by omega, ?_⟩
    show cstep f g m n (false, g.getD (n + (e - m)) 0) = .inr e
    rw [cs_fg (by rw [this.2.2.1]; omega), this.2.2.1, show m + (n + (e - m) - n) = e by omega]
theorem cs_out {e : Nat} (he : e < m + k) {s : Bool × Nat} (hs : Val m n k s) : cstep f g m n s ≠ .inl (cst m n e) := fun h => by
  have h1 := (cs_val hf hg hs h).2.2.2
  rw [(cst_val hf hg he).2] at h1
  cases h1
theorem walk_ends {e : Nat} (he : e < m + k) : ∃ y, Ends (cstep f g m n) (cst m n e) y := by
  apply Classical.byContradiction
  intro hn
  have go : ∀ i, cstep f g m n (itr (cstep f g m n) (cst m n e) i) = .inl (itr (cstep f g m n) (cst m n e) (i + 1)) := fun i => by
    cases h : cstep f g m n (itr (cstep f g m n) (cst m n e) i) with
    | inr y => exact absurd (ends_of i _ y h) hn
    | inl t => rw [itr_succ h]
  have val : ∀ i, Val m n k (itr (cstep f g m n) (cst m n e) i) := fun i => by
    induction i with
    | zero => exact (cst_val hf hg he).1
    | succ i ih => exact (cs_val hf hg ih (go i)).1
  have diff : ∀ i j, i < j → itr (cstep f g m n) (cst m n e) i ≠ itr (cstep f g m n) (cst m n e) j := fun i => by
    induction i with
    | zero =>
      intro j hj h
      cases j with
      | zero => omega
      | succ j => exact cs_out hf hg he (val j) ((go j).trans (congrArg Sum.inl h.symm))
    | succ i ih =>
      intro j hj h
      cases j with
      | zero => omega
      | succ j => exact ih j (by omega) (cs_inj hf hg (val i) (val j) (go i) ((go j).trans (congrArg Sum.inl h.symm)))
  let code : Bool × Nat → Nat := fun s => if s.1 = true then s.2 - m else n + s.2
  obtain ⟨i, j, h1, h2, h3⟩ := pigeon (2 * n) (fun i => code (itr (cstep f g m n) (cst m n e) (i + 1))) (fun i _ => by
    have v := val (i + 1)
    have := (cs_val hf hg (val i) (go i)).2.1
    generalize itr (cstep f g m n) (cst m n e) (i + 1) = s at v this
    obtain ⟨b, z⟩ := s
    cases b with
    | true =>
      rcases this with h | h
      · have hv : z < m + n := v
        have hz : m ≤ z := h.2
        show (if true = true then z - m else n + z) < 2 * n
        rw [if_pos rfl]; omega
      · cases h.1
    | false =>
      rcases this with h | h
      · cases h.1
      · have hz : z < n := h.2
        show (if false = true then z - m else n + z) < 2 * n
        rw [if_neg Bool.false_ne_true]; omega)
  refine diff (i + 1) (j + 1) (by omega) ?_
  have v1 := (cs_val hf hg (val i) (go i)).2.1
  have v2 := (cs_val hf hg (val j) (go j)).2.1
  have w1 := val (i + 1)
  have w2 := val (j + 1)
  have h3' : code (itr (cstep f g m n) (cst m n e) (i + 1)) = code (itr (cstep f g m n) (cst m n e) (j + 1)) := h3
  clear h3 diff val go hn
  generalize itr (cstep f g m n) (cst m n e) (i + 1) = s at v1 h3' w1
  generalize itr (cstep f g m n) (cst m n e) (j + 1) = t at v2 h3' w2
  obtain ⟨b, z⟩ := s
  obtain ⟨b', z'⟩ := t
  have T : ∀ z, code (true, z) = z - m := fun z => if_pos rfl
  have F : ∀ z, code (false, z) = n + z := fun z => if_neg Bool.false_ne_true
  cases b <;> cases b'
  · rw [F, F] at h3'
    have : z = z' := by omega
    rw [this]
  · rw [F, T] at h3'
    rcases v2 with h | h
    · have : z' < m + n := w2
      have : m ≤ z' := h.2
      omega
    · cases h.1
  · rw [T, F] at h3'
    rcases v1 with h | h
    · have : z < m + n := w1
      have : m ≤ z := h.2
      omega
    · cases h.1
  · rw [T, T] at h3'
    rcases v1 with h | h
    · rcases v2 with h' | h'
      · have : m ≤ z := h.2
        have : m ≤ z' := h'.2
        have : z = z' := by omega
        rw [this]
      · cases h'.1
    · cases h.1
theorem ends_back {s : Bool × Nat} {y : Nat} (h : Ends (cstep f g m n) s y) : Val m n k s → y < m + k ∧ ∀ y0, Ends (cstep f g m n) (opp f g s) y0 → Ends (cstep f g m n) (cst m n y) y0 := by
  induction h with
  | stop h1 =>
    intro hs
    have := cs_end hf hg hs h1
    exact ⟨this.2, fun y0 h0 => by rw [this.1]; exact h0⟩
  | go h1 _ ih =>
    intro hs
    obtain ⟨v1, _, _, v2⟩ := cs_val hf hg hs h1
    obtain ⟨i1, i2⟩ := ih v1
    exact ⟨i1, fun y0 h0 => i2 y0 (.go v2 h0)⟩
theorem ends_inv {e y : Nat} (he : e < m + k) (h : Ends (cstep f g m n) (cst m n e) y) : y < m + k ∧ Ends (cstep f g m n) (cst m n y) e ∧ y ≠ e := by
  obtain ⟨v, o⟩ := cst_val hf hg he
  obtain ⟨h1, h2⟩ := ends_back hf hg h v
  refine ⟨h1, h2 e (.stop o), fun c => ?_⟩
  subst c
  obtain ⟨t, g1, g2⟩ := h.nth
  have val : ∀ i, i ≤ t → Val m n k (itr (cstep f g m n) (cst m n y) i) := fun i => by
    induction i with
    | zero => exact fun _ => v
    | succ i ih => exact fun hi => (cs_val hf hg (ih (by omega)) (g1 i (by omega))).1
  have mir : ∀ j, j ≤ t → opp f g (itr (cstep f g m n) (cst m n y) (t - j)) = itr (cstep f g m n) (cst m n y) j := fun j => by
    induction j with
    | zero => intro _; exact (cs_end hf hg (val t (Nat.le_refl _)) g2).1.symm
    | succ j ih =>
      intro hj
      have a1 := ih (by omega)
      have a2 := g1 (t - (j + 1)) (by omega)
      rw [show t - (j + 1) + 1 = t - j by omega] at a2
      have a3 := (cs_val hf hg (val _ (by omega)) a2).2.2.2
      rw [a1, g1 j (by omega)] at a3
      exact (Sum.inl.inj a3).symm
  by_cases p : t % 2 = 0
  · have := mir (t / 2) (by omega)
    rw [show t - t / 2 = t / 2 by omega] at this
    exact (opp_opp hf hg (val (t / 2) (by omega))).2.1 this
  · have a := mir (t / 2) (by omega)
    rw [show t - t / 2 = t / 2 + 1 by omega] at a
    have b := (opp_opp hf hg (val (t / 2 + 1) (by omega))).2.2.1
    have c := (cs_val hf hg (val (t / 2) (by omega)) (g1 (t / 2) (by omega))).2.2.1
    rw [a] at b
    rw [← b] at c
    exact absurd c (by cases (itr (cstep f g m n) (cst m n y) (t / 2)).1 <;> decide)
end
/-- two layers one behind the other -/
noncomputable def cfar (f g : List Nat) (m n e : Nat) : Nat := open Classical in if h : ∃ y, Ends (cstep f g m n) (cst m n e) y then h.choose else 0
noncomputable def cmp (f g : List Nat) (m n k : Nat) : List Nat := (List.range (m + k)).map fun e => cfar f g m n e
theorem cfar_is {f g : List Nat} {m n e y : Nat} (h : Ends (cstep f g m n) (cst m n e) y) : cfar f g m n e = y := by
  unfold cfar
  rw [dif_pos ⟨y, h⟩]
  exact (Exists.choose_spec (⟨y, h⟩ : ∃ y, Ends (cstep f g m n) (cst m n e) y)).det h
theorem cmp_len (f g : List Nat) (m n k : Nat) : (cmp f g m n k).length = m + k := by unfold cmp; rw [List.length_map, List.length_range]
theorem cmp_get (f g : List Nat) {m n k e : Nat} (h : e < m + k) : (cmp f g m n k)[e]? = some (cfar f g m n e) := by unfold cmp; rw [List.getElem?_map, List.getElem?_range h]; rfl
theorem cmp_d (f g : List Nat) {m n k e : Nat} (h : e < m + k) : (cmp f g m n k).getD e 0 = cfar f g m n e := by
  rw [List.getD_eq_getElem?_getD, cmp_get f g h]; rfl
theorem cmp_ends {f g : List Nat} {m n k e : Nat} (hf : IsPair (m + n) f) (hg : IsPair (n + k) g) (he : e < m + k) : Ends (cstep f g m n) (cst m n e) ((cmp f g m n k).getD e 0) := by
  obtain ⟨y, h⟩ := walk_ends hf hg he
  rw [cmp_d f g he, cfar_is h]; exact h
theorem cmp_pair {f g : List Nat} {m n k : Nat} (hf : IsPair (m + n) f) (hg : IsPair (n + k) g) : IsPair (m + k) (cmp f g m n k) := by
  refine ⟨cmp_len .., fun e he => ?_⟩
  obtain ⟨y, h⟩ := walk_ends hf hg he
  obtain ⟨h1, h2, h3⟩ := ends_inv hf hg he h
  exact ⟨y, by rw [cmp_get f g he, cfar_is h], h1, h3, by rw [cmp_get f g h1, cfar_is h2]⟩
theorem cmp_ext {f g x : List Nat} {m n k : Nat} (hx : x.length = m + k) (h : ∀ e, e < m + k → Ends (cstep f g m n) (cst m n e) (x.getD e 0)) : cmp f g m n k = x := by
  refine List.ext_getElem? fun e => ?_
  by_cases he : e < m + k
  · rw [cmp_get f g he, cfar_is (h e he), List.getD_eq_getElem?_getD, List.getElem?_eq_getElem (by omega)]; rfl
  · rw [List.getElem?_eq_none (by rw [cmp_len]; omega), List.getElem?_eq_none (by omega)]
end Pc
namespace Pc
/-! ### three layers -/
def step3 (f g h : List Nat) (m n k : Nat) : Nat × Nat → (Nat × Nat) ⊕ Nat
  | (0, z) => if f.getD z 0 < m then .inr (f.getD z 0) else .inl (1, f.getD z 0 - m)
  | (1, z) => if g.getD z 0 < n then .inl (0, m + g.getD z 0) else .inl (2, g.getD z 0 - n)
  | (_, z) => if h.getD z 0 < k then .inl (1, n + h.getD z 0) else .inr (m + (h.getD z 0 - k))
section
variable {f g h : List Nat} {m n k l : Nat}
/-- the first two -/
def em1 : Bool × Nat → Nat × Nat
  | (true, z) => (0, z)
  | (false, z) => (1, z)
theorem first_two {s : Bool × Nat} {e : Nat} (w : Ends (cstep f g m n) s e) : (e < m → Ends (step3 f g h m n k) (em1 s) e) ∧ (m ≤ e → ∀ y, Ends (step3 f g h m n k) (2, e - m) y → Ends (step3 f g h m n k) (em1 s) y) := by
  induction w with
  | @stop s e h1 =>
    obtain ⟨b, z⟩ := s
    cases b with
    | true =>
      by_cases c : f.getD z 0 < m
      · rw [cs_tl c] at h1; cases h1
        exact ⟨fun _ => .stop (if_pos c), fun q => absurd c (by omega)⟩
      · rw [cs_tg (by omega)] at h1; cases h1
    | false =>
      by_cases c : g.getD z 0 < n
      · rw [cs_fl c] at h1; cases h1
      · rw [cs_fg (by omega)] at h1; cases h1
        refine ⟨fun q => by omega, fun _ y hy => .go (t := (2, g.getD z 0 - n)) (if_neg c) ?_⟩
        rw [show m + (g.getD z 0 - n) - m = g.getD z 0 - n by omega] at hy
        exact hy
  | @go s t e h1 _ ih =>
    have st : step3 f g h m n k (em1 s) = .inl (em1 t) := by
      obtain ⟨b, z⟩ := s
      cases b with
      | true =>
        by_cases c : f.getD z 0 < m
        · rw [cs_tl c] at h1; cases h1
        · rw [cs_tg (by omega)] at h1; cases h1
          exact if_neg c
      | false =>
        by_cases c : g.getD z 0 < n
        · rw [cs_fl c] at h1; cases h1
          exact if_pos c
        · rw [cs_fg (by omega)] at h1; cases h1
    exact ⟨fun q => .go st (ih.1 q), fun q y hy => .go st (ih.2 q y hy)⟩
/-- the last two -/
def em2 : Bool × Nat → Nat × Nat
  | (true, z) => (1, z)
  | (false, z) => (2, z)
theorem last_two {s : Bool × Nat} {e : Nat} (w : Ends (cstep g h n k) s e) : (n ≤ e → Ends (step3 f g h m n k) (em2 s) (m + (e - n))) ∧ (e < n → ∀ y, Ends (step3 f g h m n k) (0, m + e) y → Ends (step3 f g h m n k) (em2 s) y) := by
  induction w with
  | @stop s e h1 =>
    obtain ⟨b, z⟩ := s
    cases b with
    | true =>
      by_cases c : g.getD z 0 < n
      · rw [cs_tl c] at h1; cases h1
        exact ⟨fun q => absurd c (by omega), fun _ y hy => .go (t := (0, m + g.getD z 0)) (if_pos c) hy⟩
      · rw [cs_tg (by omega)] at h1; cases h1
    | false =>
      by_cases c : h.getD z 0 < k
      · rw [cs_fl c] at h1; cases h1
      · rw [cs_fg (by omega)] at h1; cases h1
        refine ⟨fun _ => .stop ?_, fun q => by omega⟩
        rw [show m + (n + (h.getD z 0 - k) - n) = m + (h.getD z 0 - k) by omega]
        exact if_neg c
  | @go s t e h1 _ ih =>
    have st : step3 f g h m n k (em2 s) = .inl (em2 t) := by
      obtain ⟨b, z⟩ := s
      cases b with
      | true =>
        by_cases c : g.getD z 0 < n
        · rw [cs_tl c] at h1; cases h1
        · rw [cs_tg (by omega)] at h1; cases h1
          exact if_neg c
      | false =>
        by_cases c : h.getD z 0 < k
        · rw [cs_fl c] at h1; cases h1
          exact if_pos c
        · rw [cs_fg (by omega)] at h1; cases h1
    exact ⟨fun q => .go st (ih.1 q), fun q y hy => .go st (ih.2 q y hy)⟩
def em3 (m n : Nat) : Bool × Nat → Nat × Nat
  | (true, z) => if z < m then (0, z) else (1, n + (z - m))
  | (false, z) => (2, z)
def em4 (n k : Nat) : Bool × Nat → Nat × Nat
  | (true, z) => (0, z)
  | (false, z) => if z < n then (1, z) else (2, k + (z - n))
theorem em3_cst (z : Nat) : em3 m n (true, z) = em1 (cst m n z) := by
  unfold cst
  by_cases c : z < m
  · rw [if_pos c]; exact if_pos c
  · rw [if_neg c]; exact if_neg c
theorem em4_cst (z : Nat) : em4 n k (false, z) = em2 (cst n k z) := by
  unfold cst
  by_cases c : z < n
  · rw [if_pos c]; exact if_pos c
  · rw [if_neg c]; exact if_neg c
theorem left_three (hf : IsPair (m + n) f) (hg : IsPair (n + k) g) (hh : IsPair (k + l) h) {s : Bool × Nat} {y : Nat} (w : Ends (cstep (cmp f g m n k) h m k) s y) : Val m k l s → Ends (step3 f g h m n k) (em3 m n s) y := by
  have hfg := cmp_pair hf hg
  induction w with
  | @stop s e h1 =>
    intro hs
    obtain ⟨b, z⟩ := s
    cases b with
    | true =>
      have W := first_two (h := h) (k := k) (cmp_ends hf hg (show z < m + k from hs))
      by_cases c : (cmp f g m n k).getD z 0 < m
      · rw [cs_tl c] at h1; cases h1
        rw [em3_cst]; exact W.1 c
      · rw [cs_tg (by omega)] at h1; cases h1
    | false =>
      by_cases c : h.getD z 0 < k
      · rw [cs_fl c] at h1; cases h1
      · rw [cs_fg (by omega)] at h1; cases h1
        exact .stop (if_neg c)
  | @go s t e h1 _ ih =>
    intro hs
    have ht := (cs_val hfg hh hs h1).1
    obtain ⟨b, z⟩ := s
    cases b with
    | true =>
      have W := first_two (h := h) (k := k) (cmp_ends hf hg (show z < m + k from hs))
      by_cases c : (cmp f g m n k).getD z 0 < m
      · rw [cs_tl c] at h1; cases h1
      · rw [cs_tg (by omega)] at h1; cases h1
        rw [em3_cst]; exact W.2 (by omega) _ (ih ht)
    | false =>
      by_cases c : h.getD z 0 < k
      · rw [cs_fl c] at h1; cases h1
        refine .go (t := (1, n + h.getD z 0)) (if_pos c) ?_
        have q := ih ht
        have e : em3 m n (true, m + h.getD z 0) = (1, n + h.getD z 0) := by
          show (if m + h.getD z 0 < m then _ else _) = _
          rw [if_neg (by omega), show m + h.getD z 0 - m = h.getD z 0 by omega]
        rw [e] at q; exact q
      · rw [cs_fg (by omega)] at h1; cases h1
theorem right_three (hf : IsPair (m + n) f) (hg : IsPair (n + k) g) (hh : IsPair (k + l) h) {s : Bool × Nat} {y : Nat} (w : Ends (cstep f (cmp g h n k l) m n) s y) : Val m n l s → Ends (step3 f g h m n k) (em4 n k s) y := by
  have hgh := cmp_pair hg hh
  induction w with
  | @stop s e h1 =>
    intro hs
    obtain ⟨b, z⟩ := s
    cases b with
    | true =>
      by_cases c : f.getD z 0 < m
      · rw [cs_tl c] at h1; cases h1
        exact .stop (if_pos c)
      · rw [cs_tg (by omega)] at h1; cases h1
    | false =>
      have W := last_two (f := f) (m := m) (cmp_ends hg hh (show z < n + l from hs))
      by_cases c : (cmp g h n k l).getD z 0 < n
      · rw [cs_fl c] at h1; cases h1
      · rw [cs_fg (by omega)] at h1; cases h1
        rw [em4_cst]; exact W.1 (by omega)
  | @go s t e h1 _ ih =>
    intro hs
    have ht := (cs_val hf hgh hs h1).1
    obtain ⟨b, z⟩ := s
    cases b with
    | true =>
      by_cases c : f.getD z 0 < m
      · rw [cs_tl c] at h1; cases h1
      · rw [cs_tg (by omega)] at h1; cases h1
        refine .go (t := (1, f.getD z 0 - m)) (if_neg c) ?_
        have q := ih ht
        have fz := hf.d (show z < m + n from hs)
        have e : em4 n k (false, f.getD z 0 - m) = (1, f.getD z 0 - m) := if_pos (by omega)
        rw [e] at q; exact q
    | false =>
      have W := last_two (f := f) (m := m) (cmp_ends hg hh (show z < n + l from hs))
      by_cases c : (cmp g h n k l).getD z 0 < n
      · rw [cs_fl c] at h1; cases h1
        rw [em4_cst]; exact W.2 c _ (ih ht)
      · rw [cs_fg (by omega)] at h1; cases h1
/-- the order of joining does not matter -/
theorem cmp_assoc (hf : IsPair (m + n) f) (hg : IsPair (n + k) g) (hh : IsPair (k + l) h) : cmp (cmp f g m n k) h m k l = cmp f (cmp g h n k l) m n l := by
  have hfg := cmp_pair hf hg
  have hgh := cmp_pair hg hh
  refine cmp_ext (by rw [cmp_len]) fun e he => ?_
  obtain ⟨y, w⟩ := walk_ends hfg hh he
  have a := left_three hf hg hh w (cst_val hfg hh he).1
  have b := right_three hf hg hh (cmp_ends hf hgh he) (cst_val hf hgh he).1
  have e1 : em3 m n (cst m k e) = em4 n k (cst m n e) := by
    unfold cst
    by_cases c : e < m
    · rw [if_pos c, if_pos c]; exact if_pos c
    · rw [if_neg c, if_neg c]
      show (2, k + (e - m)) = if n + (e - m) < n then _ else _
      rw [if_neg (by omega), show n + (e - m) - n = e - m by omega]
  rw [e1] at a
  rw [← a.det b]; exact w
end
/-! ### what is read is a layer behind a pairing -/
theorem trail_ends {fs ps : List Nat} {n z : Nat} {l : List Nat} (hP : IsPair n ps) (h : Trail fs ps n z l) : Ends (cstep ps fs 0 n) (false, z) (l.getLastD 0 - n) := by
  induction h with
  | @stop z h1 =>
    have := cs_fg (f := ps) (g := fs) (m := 0) (n := n) (z := z) h1
    rw [Nat.zero_add] at this
    exact .stop this
  | @go z l h1 h2 ih =>
    have a := cs_fl (f := ps) (g := fs) (m := 0) (n := n) (z := z) h1
    rw [Nat.zero_add] at a
    have b := cs_tg (f := ps) (g := fs) (m := 0) (n := n) (z := fs.getD z 0) (Nat.zero_le _)
    rw [Nat.sub_zero] at b
    rw [lastc h2.len.1]
    exact .go a (.go b ih)
theorem rd_cmp {fs ps : List Nat} {n : Nat} (hF : IsPair (2 * n) fs) (hP : IsPair n ps) : rd fs ps n = cmp ps fs 0 n n := by
  refine (cmp_ext (by rw [rd_len, Nat.zero_add]) fun e he => ?_).symm
  obtain ⟨l, h1, _⟩ := trail_ex hF hP (z := n + e) (by omega) (by omega)
  have := trail_ends hP h1
  rw [← far_is h1] at this
  have e1 : (rd fs ps n).getD e 0 = far fs ps n (n + e) - n := by
    rw [List.getD_eq_getElem?_getD, rd_get fs ps (by omega)]; rfl
  rw [e1]
  unfold cst
  rw [if_neg (Nat.not_lt_zero _), Nat.sub_zero]
  exact this
/-! ### a call added to the second layer -/
section
variable {f g g' : List Nat} {m n k A B c d : Nat}
theorem Ends.near (hf : IsPair (m + n) f) (hg : IsPair (n + k) g) (hN : Near g g' n A B c d) {s : Bool × Nat} {y : Nat} (w : Ends (cstep f g m n) s y) : Val m n k s → s ≠ (false, A) → s ≠ (false, B) → y ≠ m + (A - n) → y ≠ m + (B - n) → Ends (cstep f g' m n) s y := by
  have la := hN.la
  have lb := hN.lb
  induction w with
  | @stop s y h1 =>
    intro vs s1 s2 y1 y2
    obtain ⟨b, z⟩ := s
    cases b with
    | true =>
      by_cases q : f.getD z 0 < m
      · rw [cs_tl q] at h1; cases h1; exact .stop (cs_tl q)
      · rw [cs_tg (by omega)] at h1; cases h1
    | false =>
      by_cases q : g.getD z 0 < n
      · rw [cs_fl q] at h1; cases h1
      · rw [cs_fg (by omega)] at h1; cases h1
        have e : g'.getD z 0 = g.getD z 0 := hN.eq z (fun e => s1 (by rw [e])) (fun e => s2 (by rw [e])) (fun e => y1 (by rw [e, hN.fc])) (fun e => y2 (by rw [e, hN.fd]))
        have := cs_fg (f := f) (g := g') (m := m) (n := n) (z := z) (by rw [e]; omega)
        rw [e] at this; exact .stop this
  | @go s t y h1 _ ih =>
    intro vs s1 s2 y1 y2
    have cv := cs_val hf hg vs h1
    obtain ⟨b, z⟩ := s
    cases b with
    | true =>
      by_cases q : f.getD z 0 < m
      · rw [cs_tl q] at h1; cases h1
      · rw [cs_tg (by omega)] at h1; cases h1
        have hz := (hf.d (show z < m + n from vs)).1
        exact .go (cs_tg (by omega)) (ih cv.1 (fun h => by have := congrArg Prod.snd h; have e : f.getD z 0 - m = A := this; omega) (fun h => by have := congrArg Prod.snd h; have e : f.getD z 0 - m = B := this; omega) y1 y2)
    | false =>
      by_cases q : g.getD z 0 < n
      · rw [cs_fl q] at h1; cases h1
        have e : g'.getD z 0 = g.getD z 0 := hN.eq z (fun e => s1 (by rw [e])) (fun e => s2 (by rw [e])) (fun e => by rw [e, hN.fc] at q; omega) (fun e => by rw [e, hN.fd] at q; omega)
        have := cs_fl (f := f) (g := g') (m := m) (n := n) (z := z) (by rw [e]; exact q)
        rw [e] at this
        exact .go this (ih cv.1 (fun h => by cases h) (fun h => by cases h) y1 y2)
      · rw [cs_fg (by omega)] at h1; cases h1
theorem Ends.over (hf : IsPair (m + n) f) (hg : IsPair (n + k) g) (hN : Near g g' n A B c d) (hB : B < n + k) {y' : Nat} (wB : Ends (cstep f g m n) (false, B) y') (yA : y' ≠ m + (A - n)) (yB : y' ≠ m + (B - n)) {s : Bool × Nat} {y : Nat} (w : Ends (cstep f g m n) s y) :
    Val m n k s → s ≠ (false, A) → s ≠ (false, B) → y = m + (A - n) → Ends (cstep f g' m n) s y' := by
  have la := hN.la
  have lb := hN.lb
  have fb := hN.fb
  induction w with
  | @stop s y h1 =>
    intro vs s1 s2 y1
    obtain ⟨b, z⟩ := s
    cases b with
    | true =>
      by_cases q : f.getD z 0 < m
      · rw [cs_tl q] at h1; cases h1; omega
      · rw [cs_tg (by omega)] at h1; cases h1
    | false =>
      by_cases q : g.getD z 0 < n
      · rw [cs_fl q] at h1; cases h1
      · rw [cs_fg (by omega)] at h1; cases h1
        have zc : z = c := hN.un z (by omega)
        subst zc
        -- the way of B goes on from here
        cases wB with
        | stop h2 =>
          by_cases p : g.getD B 0 < n
          · rw [cs_fl p] at h2; cases h2
          · rw [cs_fg (by omega)] at h2; cases h2
            have := cs_fg (f := f) (g := g') (m := m) (n := n) (z := z) (by rw [hN.gc, ← fb]; omega)
            rw [hN.gc, ← fb] at this; exact .stop this
        | @go _ t _ h2 h3 =>
          have cv := cs_val hf hg (show Val m n k (false, B) from hB) h2
          by_cases p : g.getD B 0 < n
          · rw [cs_fl p] at h2; cases h2
            have := cs_fl (f := f) (g := g') (m := m) (n := n) (z := z) (by rw [hN.gc, ← fb]; exact p)
            rw [hN.gc, ← fb] at this
            exact .go this (h3.near hf hg hN cv.1 (fun h => by cases h) (fun h => by cases h) yA yB)
          · rw [cs_fg (by omega)] at h2; cases h2
  | @go s t y h1 _ ih =>
    intro vs s1 s2 y1
    have cv := cs_val hf hg vs h1
    obtain ⟨b, z⟩ := s
    cases b with
    | true =>
      by_cases q : f.getD z 0 < m
      · rw [cs_tl q] at h1; cases h1
      · rw [cs_tg (by omega)] at h1; cases h1
        have hz := (hf.d (show z < m + n from vs)).1
        exact .go (cs_tg (by omega)) (ih cv.1 (fun h => by have := congrArg Prod.snd h; have e : f.getD z 0 - m = A := this; omega) (fun h => by have := congrArg Prod.snd h; have e : f.getD z 0 - m = B := this; omega) y1)
    | false =>
      by_cases q : g.getD z 0 < n
      · rw [cs_fl q] at h1; cases h1
        have e : g'.getD z 0 = g.getD z 0 := hN.eq z (fun e => s1 (by rw [e])) (fun e => s2 (by rw [e])) (fun e => by rw [e, hN.fc] at q; omega) (fun e => by rw [e, hN.fd] at q; omega)
        have := cs_fl (f := f) (g := g') (m := m) (n := n) (z := z) (by rw [e]; exact q)
        rw [e] at this
        exact .go this (ih cv.1 (fun h => by cases h) (fun h => by cases h) y1)
      · rw [cs_fg (by omega)] at h1; cases h1
end
/-- a call at the lower ends of the second layer is one at the lower ends of both -/
theorem cmp_jn {f g : List Nat} {m n k a b : Nat} (hn : k = n) (h0 : 0 < n) (hf : IsPair (m + n) f) (hg : IsPair (n + k) g) (hab : a ≠ b) (ha : a < k) (hb : b < k) : cmp f (jn g (n + a) (n + b)) m n k = jn (cmp f g m n k) (m + a) (m + b) := by
  subst hn
  have hR := cmp_pair hf hg
  have hg2 : IsPair (2 * k) g := by rw [show 2 * k = k + k by omega]; exact hg
  by_cases hc : g.getD (k + a) 0 = k + b
  · rw [jn_same (hg.ofd (by omega) hc)]
    have w : Ends (cstep f g m k) (cst m k (m + a)) (m + b) := by
      have := cs_fg (f := f) (g := g) (m := m) (n := k) (z := k + a) (by rw [hc]; omega)
      rw [hc, show k + b - k = b by omega] at this
      unfold cst
      rw [if_neg (by omega), show m + a - m = a by omega]
      exact .stop this
    refine (jn_same ?_).symm
    rw [cmp_get f g (by omega), cfar_is w]
  · obtain ⟨N1, N2, gA, gB⟩ := jn_near hg2 (A := k + a) (B := k + b) (by omega) (by omega) (by omega) (by omega) (by omega) hc
    have hg' : IsPair (k + k) (jn g (k + a) (k + b)) := jn_pair hg (by omega) (by omega) (by omega)
    have ga := hR.d (show m + a < m + k by omega)
    have gb := hR.d (show m + b < m + k by omega)
    have sA : cst m k (m + a) = (false, k + a) := by unfold cst; rw [if_neg (by omega), show m + a - m = a by omega]
    have sB : cst m k (m + b) = (false, k + b) := by unfold cst; rw [if_neg (by omega), show m + b - m = b by omega]
    have wA := cmp_ends hf hg (show m + a < m + k by omega)
    have wB := cmp_ends hf hg (show m + b < m + k by omega)
    have JS : (cmp f g m k k).getD (m + a) 0 = m + b → jn (cmp f g m k k) (m + a) (m + b) = cmp f g m k k := fun c => jn_same (hR.ofd (by omega) c)
    rw [sA] at wA
    rw [sB] at wB
    refine cmp_ext (by rw [jn_len, cmp_len]) fun e he => ?_
    have G : ∀ {v : Nat}, (jn (cmp f g m k k) (m + a) (m + b))[e]? = some v → (jn (cmp f g m k k) (m + a) (m + b)).getD e 0 = v := fun h => getD_of h
    have we := cmp_ends hf hg he
    have ve := (cst_val hf hg he).1
    have ge := hR.d he
    have ne : ∀ {x : Nat}, x < k → e ≠ m + x → cst m k e ≠ (false, k + x) := fun {x} hx h z => by
      unfold cst at z
      by_cases c : e < m
      · rw [if_pos c] at z; cases z
      · rw [if_neg c] at z
        have : k + (e - m) = k + x := congrArg Prod.snd z
        omega
    by_cases ea : e = m + a
    · subst ea
      have w : Ends (cstep f (jn g (k + a) (k + b)) m k) (cst m k (m + a)) (m + b) := by
        have := cs_fg (f := f) (g := jn g (k + a) (k + b)) (m := m) (n := k) (z := k + a) (by rw [gA]; omega)
        rw [gA, show k + b - k = b by omega] at this
        rw [sA]; exact .stop this
      by_cases c : (cmp f g m k k).getD (m + a) 0 = m + b
      · rw [JS c, c]; exact w
      · rw [G (by rw [jn_get hR (by omega) ga.2.2.2 gb.2.2.2 c, if_pos rfl])]; exact w
    · by_cases eb : e = m + b
      · subst eb
        have w : Ends (cstep f (jn g (k + a) (k + b)) m k) (cst m k (m + b)) (m + a) := by
          have := cs_fg (f := f) (g := jn g (k + a) (k + b)) (m := m) (n := k) (z := k + b) (by rw [gB]; omega)
          rw [gB, show k + a - k = a by omega] at this
          rw [sB]; exact .stop this
        by_cases c : (cmp f g m k k).getD (m + a) 0 = m + b
        · rw [JS c, show (cmp f g m k k).getD (m + b) 0 = m + a by rw [← c]; exact ga.2.2.1]; exact w
        · rw [G (by rw [jn_get hR (by omega) ga.2.2.2 gb.2.2.2 c, if_neg (by omega), if_pos rfl])]; exact w
      · have s1 := ne ha ea
        have s2 := ne hb eb
        by_cases yA : (cmp f g m k k).getD e 0 = m + a
        · have e1 : (cmp f g m k k).getD (m + a) 0 = e := by rw [← yA]; exact ge.2.2.1
          have e2 : (cmp f g m k k).getD (m + b) 0 ≠ m + a := fun z => by
            have := gb.2.2.1
            rw [z, e1] at this; omega
          have w := Ends.over hf hg N1 (by omega) wB (by rw [show k + a - k = a by omega]; exact e2) (by rw [show k + b - k = b by omega]; exact gb.2.1) we ve s1 s2 (by rw [show k + a - k = a by omega]; exact yA)
          rw [G (by rw [jn_get hR (by omega) ga.2.2.2 gb.2.2.2 (by rw [e1]; omega), if_neg ea, if_neg eb, if_pos e1.symm])]; exact w
        · by_cases yB : (cmp f g m k k).getD e 0 = m + b
          · have e1 : (cmp f g m k k).getD (m + b) 0 = e := by rw [← yB]; exact ge.2.2.1
            have e2 : (cmp f g m k k).getD (m + a) 0 ≠ m + b := fun z => by
              have := ga.2.2.1
              rw [z, e1] at this; omega
            have e3 : (cmp f g m k k).getD (m + a) 0 ≠ e := fun z => by
              have := ga.2.2.1
              rw [z, yB] at this; omega
            have w := Ends.over hf hg N2 (by omega) wA (by rw [show k + b - k = b by omega]; exact e2) (by rw [show k + a - k = a by omega]; exact ga.2.1) we ve s2 s1 (by rw [show k + b - k = b by omega]; exact yB)
            rw [G (by rw [jn_get hR (by omega) ga.2.2.2 gb.2.2.2 e2, if_neg ea, if_neg eb, if_neg (fun z => e3 z.symm), if_pos e1.symm])]; exact w
          · have w := we.near hf hg N1 ve s1 s2 (by rw [show k + a - k = a by omega]; exact yA) (by rw [show k + b - k = b by omega]; exact yB)
            by_cases c : (cmp f g m k k).getD (m + a) 0 = m + b
            · rw [JS c]; exact w
            · have e1 : (cmp f g m k k).getD (m + a) 0 ≠ e := fun z => by
                have := ga.2.2.1
                rw [z] at this; exact yA this
              have e2 : (cmp f g m k k).getD (m + b) 0 ≠ e := fun z => by
                have := gb.2.2.1
                rw [z] at this; exact yB this
              rw [G (by rw [jn_get hR (by omega) ga.2.2.2 gb.2.2.2 c, if_neg ea, if_neg eb, if_neg (fun z => e1 z.symm), if_neg (fun z => e2 z.symm)]; exact ge.2.2.2)]; exact w
end Pc
namespace Pc
/-! ### sheets one after another -/
theorem IsPair.two {n : Nat} {f : List Nat} (h : IsPair (2 * n) f) : IsPair (n + n) f := by rw [← Nat.two_mul]; exact h
theorem IsPair.one {n : Nat} {f : List Nat} (h : IsPair (n + n) f) : IsPair (2 * n) f := by rw [Nat.two_mul]; exact h
noncomputable def fol (f g : List Nat) (n : Nat) : List Nat := cmp f g n n n
theorem fol_pair {f g : List Nat} {n : Nat} (hf : IsPair (2 * n) f) (hg : IsPair (2 * n) g) : IsPair (2 * n) (fol f g n) := (cmp_pair hf.two hg.two).one
theorem fol_assoc {f g h : List Nat} {n : Nat} (hf : IsPair (2 * n) f) (hg : IsPair (2 * n) g) (hh : IsPair (2 * n) h) : fol (fol f g n) h n = fol f (fol g h n) n := cmp_assoc hf.two hg.two hh.two
theorem rd_fol {f g ps : List Nat} {n : Nat} (hf : IsPair (2 * n) f) (hg : IsPair (2 * n) g) (hP : IsPair n ps) : rd (fol f g n) ps n = rd g (rd f ps n) n := by
  have hR := rd_pair hf hP
  have hP0 : IsPair (0 + n) ps := by rw [Nat.zero_add]; exact hP
  rw [rd_cmp (fol_pair hf hg) hP, rd_cmp hg hR, rd_cmp hf hP]
  exact (cmp_assoc hP0 hf.two hg.two).symm
theorem fol_emp {f : List Nat} {n : Nat} (hn : 0 < n) (hf : IsPair (2 * n) f) : fol f (emp n) n = f := by
  refine cmp_ext (by rw [hf.len]; omega) fun e he => ?_
  have fe := hf.d (show e < 2 * n by omega)
  have em : ∀ {x : Nat}, x < n → (emp n).getD x 0 = n + x := fun h => getD_of (emp_lo h)
  have em2 : ∀ {x : Nat}, x < n → (emp n).getD (n + x) 0 = x := fun h => getD_of (emp_hi h)
  -- from the first layer
  have T : ∀ {z : Nat}, z < 2 * n → Ends (cstep f (emp n) n n) (true, z) (f.getD z 0) := fun {z} hz => by
    have fz := hf.d hz
    by_cases c : f.getD z 0 < n
    · exact .stop (cs_tl c)
    · refine .go (cs_tg (by omega)) (.stop ?_)
      have e1 := em (x := f.getD z 0 - n) (by omega)
      rw [cs_fg (by rw [e1]; omega), e1, show n + (n + (f.getD z 0 - n) - n) = f.getD z 0 by omega]
  unfold cst
  by_cases c : e < n
  · rw [if_pos c]; exact T (by omega)
  · rw [if_neg c]
    have e1 := em2 (x := e - n) (by omega)
    refine .go (t := (true, e)) ?_ (T (by omega))
    rw [cs_fl (by rw [e1]; omega), e1, show n + (e - n) = e by omega]
theorem emp_fol {f : List Nat} {n : Nat} (hn : 0 < n) (hf : IsPair (2 * n) f) : fol (emp n) f n = f := by
  refine cmp_ext (by rw [hf.len]; omega) fun e he => ?_
  have em : ∀ {x : Nat}, x < n → (emp n).getD x 0 = n + x := fun h => getD_of (emp_lo h)
  have em2 : ∀ {x : Nat}, x < n → (emp n).getD (n + x) 0 = x := fun h => getD_of (emp_hi h)
  have T : ∀ {z : Nat}, z < 2 * n → Ends (cstep (emp n) f n n) (false, z) (f.getD z 0) := fun {z} hz => by
    have fz := hf.d hz
    by_cases c : f.getD z 0 < n
    · refine .go (cs_fl c) (.stop ?_)
      have e1 := em2 c
      rw [cs_tl (by rw [e1]; exact c), e1]
    · refine .stop ?_
      rw [cs_fg (by omega), show n + (f.getD z 0 - n) = f.getD z 0 by omega]
  unfold cst
  by_cases c : e < n
  · rw [if_pos c]
    have e1 := em c
    refine .go (t := (false, e)) ?_ (T (by omega))
    rw [cs_tg (by rw [e1]; omega), e1, show n + e - n = e by omega]
  · rw [if_neg c, show n + (e - n) = e by omega]; exact T (by omega)
theorem fol_shw {f : List Nat} {n : Nat} (hn : 0 < n) (hf : IsPair (2 * n) f) : ∀ (qs : List (Nat × Nat)) {g : List Nat}, IsPair (2 * n) g → Calls n qs → fol f (shw n qs g) n = shw n qs (fol f g n)
  | [], _, _, _ => rfl
  | q :: r, g, hg, hc => by
    have h1 := hc q List.mem_cons_self
    have h2 := fol_shw hn hf r (jn_pair hg (a := n + q.1) (b := n + q.2) (by omega) (by omega) (by omega)) (fun x hx => hc x (List.mem_cons_of_mem _ hx))
    have e : fol f (jn g (n + q.1) (n + q.2)) n = jn (fol f g n) (n + q.1) (n + q.2) := cmp_jn rfl hn hf.two hg.two (by omega) (by omega) h1.2
    rw [e] at h2
    exact h2
/-- the sheet of a word behind a sheet is the word added to it -/
theorem fol_word {f : List Nat} {n : Nat} {qs : List (Nat × Nat)} (hn : 0 < n) (hf : IsPair (2 * n) f) (hc : Calls n qs) : fol f (shw n qs (emp n)) n = shw n qs f := by
  rw [fol_shw hn hf qs (emp_pair hn) hc, fol_emp hn hf]
theorem shw_app (n : Nat) (qs rs : List (Nat × Nat)) (f : List Nat) : shw n (qs ++ rs) f = shw n rs (shw n qs f) := by
  unfold shw runs low
  rw [List.map_append, List.foldl_append]
/-! ### again and again -/
noncomputable def pw (f : List Nat) (n : Nat) : Nat → List Nat
  | 0 => emp n
  | k + 1 => fol (pw f n k) f n
theorem pw_pair {f : List Nat} {n : Nat} (hn : 0 < n) (hf : IsPair (2 * n) f) : ∀ k, IsPair (2 * n) (pw f n k)
  | 0 => emp_pair hn
  | k + 1 => fol_pair (pw_pair hn hf k) hf
theorem pw_add {f : List Nat} {n : Nat} (hn : 0 < n) (hf : IsPair (2 * n) f) (a : Nat) : ∀ b, fol (pw f n a) (pw f n b) n = pw f n (a + b)
  | 0 => fol_emp hn (pw_pair hn hf a)
  | b + 1 => by
    show fol (pw f n a) (fol (pw f n b) f n) n = fol (pw f n (a + b)) f n
    rw [← fol_assoc (pw_pair hn hf a) (pw_pair hn hf b) hf, pw_add hn hf a b]
theorem pw_one {f : List Nat} {n : Nat} (hn : 0 < n) (hf : IsPair (2 * n) f) : pw f n 1 = f := emp_fol hn hf
/-! ### upside down -/
def os (n e : Nat) : Nat := if e < n then e + n else e - n
theorem os_lt {n e : Nat} (h : e < 2 * n) : os n e < 2 * n := by unfold os; split <;> omega
theorem os_os {n e : Nat} (h : e < 2 * n) : os n (os n e) = e := by
  unfold os
  by_cases c : e < n
  · rw [if_pos c, if_neg (by omega)]; omega
  · rw [if_neg c, if_pos (by omega)]; omega
def mir (f : List Nat) (n : Nat) : List Nat := (List.range (2 * n)).map fun e => os n (f.getD (os n e) 0)
theorem mir_len (f : List Nat) (n : Nat) : (mir f n).length = 2 * n := by unfold mir; rw [List.length_map, List.length_range]
theorem mir_get (f : List Nat) {n e : Nat} (h : e < 2 * n) : (mir f n)[e]? = some (os n (f.getD (os n e) 0)) := by unfold mir; rw [List.getElem?_map, List.getElem?_range h]; rfl
theorem mir_d (f : List Nat) {n e : Nat} (h : e < 2 * n) : (mir f n).getD e 0 = os n (f.getD (os n e) 0) := getD_of (mir_get f h)
theorem mir_pair {f : List Nat} {n : Nat} (hf : IsPair (2 * n) f) : IsPair (2 * n) (mir f n) := by
  refine ⟨mir_len f n, fun e he => ?_⟩
  have fo := hf.d (os_lt he)
  refine ⟨_, mir_get f he, os_lt fo.1, fun z => ?_, ?_⟩
  · have := congrArg (os n) z
    rw [os_os fo.1] at this
    exact fo.2.1 this
  · rw [mir_get f (os_lt fo.1), os_os fo.1, fo.2.2.1, os_os he]
theorem list_d {x y : List Nat} (h : x.length = y.length) (e : ∀ i, i < x.length → x.getD i 0 = y.getD i 0) : x = y := by
  refine List.ext_getElem? fun i => ?_
  by_cases hi : i < x.length
  · have := e i hi
    rw [List.getD_eq_getElem?_getD, List.getD_eq_getElem?_getD, List.getElem?_eq_getElem hi, List.getElem?_eq_getElem (by omega)] at this
    rw [List.getElem?_eq_getElem hi, List.getElem?_eq_getElem (by omega)]
    exact congrArg some this
  · rw [List.getElem?_eq_none (by omega), List.getElem?_eq_none (by omega)]
theorem mir_mir {f : List Nat} {n : Nat} (hf : IsPair (2 * n) f) : mir (mir f n) n = f := by
  refine list_d (by rw [mir_len, hf.len]) fun e he => ?_
  rw [mir_len] at he
  rw [mir_d _ he, mir_d _ (os_lt he), os_os he, os_os (hf.d he).1]
theorem mir_emp {n : Nat} : mir (emp n) n = emp n := by
  refine list_d (by rw [mir_len, emp_len]) fun e he => ?_
  rw [mir_len] at he
  rw [mir_d _ he]
  by_cases c : e < n
  · have e1 : os n e = n + e := by unfold os; rw [if_pos c]; omega
    rw [e1, getD_of (emp_hi c), getD_of (emp_lo c), e1]
  · have e1 : os n e = e - n := by unfold os; rw [if_neg c]
    have h2 := emp_hi (n := n) (e := e - n) (by omega)
    rw [show n + (e - n) = e by omega] at h2
    rw [e1, getD_of (emp_lo (by omega)), getD_of h2]
    unfold os; rw [if_neg (by omega)]; omega
/-- a walk seen from below -/
theorem mir_ends {f g : List Nat} {n : Nat} (hf : IsPair (2 * n) f) (hg : IsPair (2 * n) g) {s : Bool × Nat} {y : Nat} (w : Ends (cstep f g n n) s y) : Val n n n s → Ends (cstep (mir g n) (mir f n) n n) (!s.1, os n s.2) (os n y) := by
  induction w with
  | @stop s y h1 =>
    intro hs
    obtain ⟨b, z⟩ := s
    have hz : z < 2 * n := by cases b <;> (have : z < n + n := hs; omega)
    cases b with
    | true =>
      have fz := hf.d hz
      by_cases c : f.getD z 0 < n
      · rw [cs_tl c] at h1; cases h1
        have e1 : (mir f n).getD (os n z) 0 = os n (f.getD z 0) := by rw [mir_d _ (os_lt hz), os_os hz]
        have e2 : os n (f.getD z 0) = f.getD z 0 + n := by unfold os; rw [if_pos c]
        refine .stop ?_
        show cstep (mir g n) (mir f n) n n (false, os n z) = _
        rw [cs_fg (by rw [e1, e2]; omega), e1, e2, show n + (f.getD z 0 + n - n) = f.getD z 0 + n by omega]
      · rw [cs_tg (by omega)] at h1; cases h1
    | false =>
      have gz := hg.d hz
      by_cases c : g.getD z 0 < n
      · rw [cs_fl c] at h1; cases h1
      · rw [cs_fg (by omega)] at h1; cases h1
        have e1 : (mir g n).getD (os n z) 0 = os n (g.getD z 0) := by rw [mir_d _ (os_lt hz), os_os hz]
        have e2 : os n (g.getD z 0) = g.getD z 0 - n := by unfold os; rw [if_neg c]
        refine .stop ?_
        show cstep (mir g n) (mir f n) n n (true, os n z) = _
        rw [cs_tl (by rw [e1, e2]; omega), e1, show n + (g.getD z 0 - n) = g.getD z 0 by omega]
  | @go s t y h1 _ ih =>
    intro hs
    have cv := cs_val hf.two hg.two hs h1
    have IH := ih cv.1
    obtain ⟨b, z⟩ := s
    have hz : z < 2 * n := by cases b <;> (have : z < n + n := hs; omega)
    cases b with
    | true =>
      have fz := hf.d hz
      by_cases c : f.getD z 0 < n
      · rw [cs_tl c] at h1; cases h1
      · rw [cs_tg (by omega)] at h1; cases h1
        have e1 : (mir f n).getD (os n z) 0 = os n (f.getD z 0) := by rw [mir_d _ (os_lt hz), os_os hz]
        have e2 : os n (f.getD z 0) = f.getD z 0 - n := by unfold os; rw [if_neg c]
        have e3 : os n (f.getD z 0 - n) = n + (f.getD z 0 - n) := by unfold os; rw [if_pos (by omega)]; omega
        refine .go (t := (true, n + (f.getD z 0 - n))) ?_ (by rw [← e3]; exact IH)
        show cstep (mir g n) (mir f n) n n (false, os n z) = _
        rw [cs_fl (by rw [e1, e2]; omega), e1, e2]
    | false =>
      have gz := hg.d hz
      by_cases c : g.getD z 0 < n
      · rw [cs_fl c] at h1; cases h1
        have e1 : (mir g n).getD (os n z) 0 = os n (g.getD z 0) := by rw [mir_d _ (os_lt hz), os_os hz]
        have e2 : os n (g.getD z 0) = g.getD z 0 + n := by unfold os; rw [if_pos c]
        have e3 : os n (n + g.getD z 0) = g.getD z 0 := by unfold os; rw [if_neg (by omega)]; omega
        refine .go (t := (false, g.getD z 0)) ?_ (by have := IH; rw [show os n (true, n + g.getD z 0).2 = g.getD z 0 from e3] at this; exact this)
        show cstep (mir g n) (mir f n) n n (true, os n z) = _
        rw [cs_tg (by rw [e1, e2]; omega), e1, e2, show g.getD z 0 + n - n = g.getD z 0 by omega]
      · rw [cs_fg (by omega)] at h1; cases h1
theorem mir_fol {f g : List Nat} {n : Nat} (hf : IsPair (2 * n) f) (hg : IsPair (2 * n) g) : mir (fol f g n) n = fol (mir g n) (mir f n) n := by
  refine (cmp_ext (by rw [mir_len]; omega) fun e he => ?_).symm
  have he2 : e < 2 * n := by omega
  have w := mir_ends hf hg (cmp_ends hf.two hg.two (show os n e < n + n by have := os_lt he2; omega)) (cst_val hf.two hg.two (by have := os_lt he2; omega)).1
  rw [mir_d _ he2]
  have e1 : ((!(cst n n (os n e)).1, os n (cst n n (os n e)).2) : Bool × Nat) = cst n n e := by
    unfold cst
    by_cases c : e < n
    · have e2 : os n e = e + n := by unfold os; rw [if_pos c]
      rw [e2, if_neg (by omega), if_pos c, show n + (e + n - n) = e + n by omega]
      show (true, os n (e + n)) = _
      unfold os; rw [if_neg (by omega), Nat.add_sub_cancel]
    · have e2 : os n e = e - n := by unfold os; rw [if_neg c]
      rw [e2, if_pos (by omega), if_neg c]
      show (false, os n (e - n)) = _
      unfold os; rw [if_pos (by omega), Nat.add_comm]
  rw [e1] at w
  exact w
/-- forth, back and forth again -/
theorem fol_mir {f : List Nat} {n : Nat} (hf : IsPair (2 * n) f) : fol (fol f (mir f n) n) f n = f := by
  have hm := mir_pair hf
  have hfm := fol_pair hf hm
  have up : ∀ {x : Nat}, x < n → n ≤ f.getD x 0 → (fol f (mir f n) n).getD x 0 = n + x := fun {x} hx h => by
    have fx := hf.d (show x < 2 * n by omega)
    have w : Ends (cstep f (mir f n) n n) (cst n n x) (n + x) := by
      unfold cst; rw [if_pos hx]
      refine .go (cs_tg h) (.stop ?_)
      have e1 : (mir f n).getD (f.getD x 0 - n) 0 = x + n := by
        rw [mir_d _ (by omega), show os n (f.getD x 0 - n) = f.getD x 0 by unfold os; rw [if_pos (by omega)]; omega, fx.2.2.1]
        unfold os; rw [if_pos hx]
      rw [cs_fg (by rw [e1]; omega), e1, show n + (x + n - n) = n + x by omega]
    show (cmp f (mir f n) n n n).getD x 0 = _
    rw [cmp_d _ _ (by omega), cfar_is w]
  have upp : ∀ {x : Nat}, x < n → f.getD x 0 < n → (fol f (mir f n) n).getD x 0 = f.getD x 0 := fun {x} hx h => by
    have w : Ends (cstep f (mir f n) n n) (cst n n x) (f.getD x 0) := by
      unfold cst; rw [if_pos hx]; exact .stop (cs_tl h)
    show (cmp f (mir f n) n n n).getD x 0 = _
    rw [cmp_d _ _ (by omega), cfar_is w]
  have dn : ∀ {x : Nat}, x < n → n ≤ f.getD x 0 → (fol f (mir f n) n).getD (n + x) 0 = x := fun {x} hx h => by
    have := hfm.d (show x < 2 * n by omega)
    rw [up hx h] at this
    exact this.2.2.1
  refine cmp_ext (by rw [hf.len]; omega) fun e he => ?_
  have fe := hf.d (show e < 2 * n by omega)
  unfold cst
  by_cases c : e < n
  · rw [if_pos c]
    by_cases q : f.getD e 0 < n
    · have := cs_tl (f := fol f (mir f n) n) (g := f) (m := n) (n := n) (z := e) (by rw [upp c q]; exact q)
      rw [upp c q] at this; exact .stop this
    · have u := up c (by omega)
      refine .go (t := (false, e)) ?_ (.stop ?_)
      · rw [cs_tg (by rw [u]; omega), u, show n + e - n = e by omega]
      · rw [cs_fg (by omega), show n + (f.getD e 0 - n) = f.getD e 0 by omega]
  · rw [if_neg c, show n + (e - n) = e by omega]
    by_cases q : f.getD e 0 < n
    · have u := dn q (by rw [fe.2.2.1]; omega)
      refine .go (cs_fl q) (.stop ?_)
      rw [cs_tl (by rw [u]; exact q), u]
    · refine .stop ?_
      rw [cs_fg (by omega), show n + (f.getD e 0 - n) = f.getD e 0 by omega]
/-! ### a walk counted -/
inductive EndsN {S Y : Type} (step : S → S ⊕ Y) : Nat → S → Y → Prop
  | stop {s : S} {y : Y} : step s = .inr y → EndsN step 0 s y
  | go {t : Nat} {s u : S} {y : Y} : step s = .inl u → EndsN step t u y → EndsN step (t + 1) s y
theorem Ends.count {S Y : Type} {step : S → S ⊕ Y} {s : S} {y : Y} (h : Ends step s y) : ∃ t, EndsN step t s y := by
  induction h with
  | stop h => exact ⟨0, .stop h⟩
  | go h _ ih =>
    obtain ⟨t, ht⟩ := ih
    exact ⟨t + 1, .go h ht⟩
end Pc
namespace Pc
open PySem PySem.Spec PyProof.Rows L2 RZ
/-- x //= c -/
def ipHalf : TIp := fun x y H Q => ∃ i j, x = .int i ∧ y = .int j ∧ (0 < j ∧ j < 1073741824) ∧ Q (.int (i / j)) H
theorem ip_half {X : Cx} : PIp X .FloorDiv ipHalf := by
  intro pins s σ H x y v u Q I r1 r2 h
  obtain ⟨i, j, e1, e2, hj, q⟩ := h
  subst e1 e2
  obtain ⟨t, rfl⟩ := r1
  obtain ⟨t', rfl⟩ := r2
  refine PyProof.Rows.ifloordiv_int (by omega) ?_ (.inl (PyProof.noPylong_small (by omega)))
  rw [Int.fdiv_eq_ediv_of_nonneg i (by omega)]
  exact ⟨.int _, H, I.tok _, ⟨_, rfl⟩, q⟩
theorem bl_dec (a b : Bool) : decide (V.bl a = V.bl b) = (a == b) := by cases a <;> cases b <;> rfl
end Pc
namespace Pc
theorem iteY {b : Bool} {A B : Prop} (h : b = true) (a : A) : if b = true then A else B := by rw [if_pos h]; exact a
theorem iteX {b : Bool} {A B : Prop} (h : b = false) (a : B) : if b = true then A else B := by rw [h, if_neg Bool.false_ne_true]; exact a
end Pc
namespace Pc
/-! ### how many strands -/
theorem sts_ups {n : Nat} {fs : List Nat} (h : IsPair (2 * n) fs) : 2 * (ups fs n).length + (sts fs n).length = n := by
  have hp := jns_perm h
  have hc := hp.countP_eq (fun z => decide (z < n))
  rw [range_low] at hc
  unfold jns at hc
  have x1 : (flat (ups fs n)).countP (fun z => decide (z < n)) = 2 * (ups fs n).length := flat_two fun p hp => by
    have := ups_mem h hp
    exact ⟨decide_eq_true (by omega), decide_eq_true (by omega)⟩
  have x2 : (flat ((los fs n).map (fun p => (n + p.1, n + p.2)))).countP (fun z => decide (z < n)) = 0 := flat_none fun p hp => by
    obtain ⟨r, hr, rfl⟩ := List.mem_map.mp hp
    exact ⟨decide_eq_false (by show ¬ n + r.1 < n; omega), decide_eq_false (by show ¬ n + r.2 < n; omega)⟩
  have x3 : (flat ((sts fs n).map (fun p => (p.1, n + p.2)))).countP (fun z => decide (z < n)) = ((sts fs n).map (fun p => (p.1, n + p.2))).length := flat_one fun p hp => by
    obtain ⟨r, hr, rfl⟩ := List.mem_map.mp hp
    have := sts_mem h hr
    exact ⟨decide_eq_true (by show r.1 < n; omega), decide_eq_false (by show ¬ n + r.2 < n; omega)⟩
  rw [flat_app, flat_app, List.countP_append, List.countP_append, x1, x2, x3, List.length_map] at hc
  omega
theorem sel_len {c d : Nat → Bool} {g k : Nat → Nat × Nat} {n : Nat} (h : ∀ x, x < n → c x = d x) : (selN c g n).length = (selN d k n).length := by
  unfold selN
  rw [List.length_map, List.length_map]
  exact congrArg List.length (List.filter_congr fun x hx => h x (List.mem_range.mp hx))
theorem sel_le {c d : Nat → Bool} {g k : Nat → Nat × Nat} {n : Nat} (h : ∀ x, x < n → c x = true → d x = true) : (selN c g n).length ≤ (selN d k n).length := by
  unfold selN
  rw [List.length_map, List.length_map, ← List.countP_eq_length_filter, ← List.countP_eq_length_filter]
  exact List.countP_mono_left fun x hx => h x (List.mem_range.mp hx)
theorem ups_mir {n : Nat} {f : List Nat} (hf : IsPair (2 * n) f) : (ups (mir f n) n).length = (los f n).length := by
  refine sel_len fun x hx => ?_
  have fx := hf.d (show n + x < 2 * n by omega)
  have e : (mir f n).getD x 0 = os n (f.getD (n + x) 0) := by rw [mir_d f (by omega), show os n x = n + x by unfold os; rw [if_pos hx]; omega]
  unfold upC loC
  rw [e]
  by_cases c : f.getD (n + x) 0 < n
  · rw [show os n (f.getD (n + x) 0) = f.getD (n + x) 0 + n by unfold os; rw [if_pos c], decide_eq_false (show ¬ f.getD (n + x) 0 + n < n by omega), decide_eq_false (show ¬ n + x < f.getD (n + x) 0 by omega), Bool.and_false]
  · rw [show os n (f.getD (n + x) 0) = f.getD (n + x) 0 - n by unfold os; rw [if_neg c], decide_eq_true (show f.getD (n + x) 0 - n < n by omega), Bool.and_true]
    by_cases q : n + x < f.getD (n + x) 0
    · rw [decide_eq_true q, decide_eq_true (by omega)]
    · rw [decide_eq_false q, decide_eq_false (by omega)]
theorem sts_mir {n : Nat} {f : List Nat} (hf : IsPair (2 * n) f) : (sts (mir f n) n).length = (sts f n).length := by
  have a := sts_ups hf
  have b := sts_ups (mir_pair hf)
  rw [ups_mir hf, ← ups_los hf] at b
  omega
theorem sts_fol {n : Nat} {f g : List Nat} : (sts (fol f g n) n).length ≤ (sts f n).length := by
  refine sel_le fun x hx h => ?_
  unfold stC at h ⊢
  by_cases c : f.getD x 0 < n
  · have w : Ends (cstep f g n n) (cst n n x) (f.getD x 0) := by unfold cst; rw [if_pos hx]; exact .stop (cs_tl c)
    have e : (fol f g n).getD x 0 = f.getD x 0 := by show (cmp f g n n n).getD x 0 = _; rw [cmp_d _ _ (by omega), cfar_is w]
    rw [e, decide_eq_false (by omega)] at h; cases h
  · exact decide_eq_true (by omega)
theorem sts_fol' {n : Nat} {f g : List Nat} (hf : IsPair (2 * n) f) (hg : IsPair (2 * n) g) : (sts (fol f g n) n).length ≤ (sts g n).length := by
  rw [← sts_mir (fol_pair hf hg), mir_fol hf hg, ← sts_mir hg]
  exact sts_fol
end Pc
namespace Pc
open PySem PySem.Spec PyProof.Rows L2 RZ
theorem room65 {k : Nat} {A : Around} (r : Room k A) : A.units + 65 < cLine := by have := r.un; omega
/-- x *= c, both small -/
def ipMul : TIp := fun x y H Q => ∃ i j, x = .int i ∧ y = .int j ∧ CMul i j ∧ Q (.int (i * j)) H
theorem ip_mul {X : Cx} : PIp X .Mult ipMul := by
  intro pins s σ H x y v u Q I r1 r2 h
  obtain ⟨i, j, e1, e2, hj, q⟩ := h
  subst e1 e2
  obtain ⟨t, rfl⟩ := r1
  obtain ⟨t', rfl⟩ := r2
  exact PyProof.Rows.imul_int ⟨.int _, H, I.tok _, ⟨_, rfl⟩, q⟩ hj.ok
end Pc
namespace Pc
/-! ### counting -/
theorem cnt_same {p q : Nat → Bool} {n : Nat} (h : ∀ y, y < n → q y = p y) : (List.range n).countP q = (List.range n).countP p :=
  List.countP_congr fun x hx => by rw [h x (List.mem_range.mp hx)]
theorem cnt_off {p q : Nat → Bool} {a : Nat} : ∀ {n : Nat}, (∀ y, y < n → y ≠ a → q y = p y) → a < n → p a = true → q a = false → (List.range n).countP q + 1 = (List.range n).countP p
  | 0, _, h, _, _ => absurd h (Nat.not_lt_zero _)
  | n + 1, h, ha, h1, h2 => by
    rw [List.range_succ, List.countP_append, List.countP_append]
    by_cases e : a = n
    · subst e
      rw [cnt_same (p := p) (q := q) (fun y hy => h y (by omega) (by omega)), List.countP_cons_of_neg (by rw [h2]; decide), List.countP_cons_of_pos h1]
      rfl
    · have ih := cnt_off (p := p) (q := q) (a := a) (n := n) (fun y hy hn => h y (by omega) hn) (by omega) h1 h2
      have e1 : [n].countP q = [n].countP p := by
        have := h n (by omega) (fun z => e z.symm)
        by_cases c : p n = true
        · rw [List.countP_cons_of_pos c, List.countP_cons_of_pos (by rw [this]; exact c)]; rfl
        · rw [List.countP_cons_of_neg c, List.countP_cons_of_neg (by rw [this]; exact c)]; rfl
      rw [e1]
      omega
/-! ### the people at the lower ends of strands -/
def lsC (f : List Nat) (n y : Nat) : Bool := decide (f.getD (n + y) 0 < n)
def lse (f : List Nat) (n : Nat) : List Nat := (List.range n).filter (lsC f n)
theorem lse_len {f : List Nat} {n : Nat} (hf : IsPair (2 * n) f) : (lse f n).length = (sts f n).length := by
  rw [← sts_mir hf]
  unfold lse sts selN
  rw [List.length_map]
  refine congrArg List.length (List.filter_congr fun x hx => ?_)
  have hx := List.mem_range.mp hx
  have fx := hf.d (show n + x < 2 * n by omega)
  have e : (mir f n).getD x 0 = os n (f.getD (n + x) 0) := by rw [mir_d f (by omega), show os n x = n + x by unfold os; rw [if_pos hx]; omega]
  unfold lsC stC
  rw [e]
  by_cases c : f.getD (n + x) 0 < n
  · rw [decide_eq_true c, show os n (f.getD (n + x) 0) = f.getD (n + x) 0 + n by unfold os; rw [if_pos c], decide_eq_true (by omega)]
  · rw [decide_eq_false c, show os n (f.getD (n + x) 0) = f.getD (n + x) 0 - n by unfold os; rw [if_neg c], decide_eq_false (by omega)]
theorem lse_cnt (f : List Nat) (n : Nat) : (lse f n).length = (List.range n).countP (lsC f n) := (List.countP_eq_length_filter ..).symm
/-- a call takes two strands if both people's lower ends are strands, else none -/
theorem lse_jn {f : List Nat} {n a b : Nat} (hf : IsPair (2 * n) f) (hab : a ≠ b) (ha : a < n) (hb : b < n) : (lse (jn f (n + a) (n + b)) n).length + (if (lsC f n a && lsC f n b) = true then 2 else 0) = (lse f n).length := by
  rw [lse_cnt, lse_cnt]
  have fa := hf.d (show n + a < 2 * n by omega)
  have fb := hf.d (show n + b < 2 * n by omega)
  by_cases hc : f.getD (n + a) 0 = n + b
  · rw [jn_same (hf.ofd (by omega) hc), if_neg, Nat.add_zero]
    unfold lsC
    rw [hc, decide_eq_false (show ¬ n + b < n by omega), Bool.false_and]
    decide
  · have G := jn_get hf (show n + a ≠ n + b by omega) fa.2.2.2 fb.2.2.2 hc
    have D : ∀ z, (jn f (n + a) (n + b)).getD z 0 = ((jn f (n + a) (n + b))[z]?).getD 0 := fun z => List.getD_eq_getElem?_getD
    obtain ⟨x1, x2, x3, x4, _⟩ := four hf (show n + a ≠ n + b by omega) fa.2.2.2 fb.2.2.2 hc
    have pa : lsC (jn f (n + a) (n + b)) n a = false := by
      unfold lsC; rw [D, G, if_pos rfl]; exact decide_eq_false (by show ¬ n + b < n; omega)
    have pb : lsC (jn f (n + a) (n + b)) n b = false := by
      unfold lsC; rw [D, G, if_neg (by omega), if_pos rfl]; exact decide_eq_false (by show ¬ n + a < n; omega)
    have same : ∀ y, y ≠ a → y ≠ b → n + y ≠ f.getD (n + a) 0 → n + y ≠ f.getD (n + b) 0 → lsC (jn f (n + a) (n + b)) n y = lsC f n y := fun y h1 h2 h3 h4 => by
      unfold lsC; rw [D, G, if_neg (by omega), if_neg (by omega), if_neg h3, if_neg h4, ← List.getD_eq_getElem?_getD]
    by_cases ca : f.getD (n + a) 0 < n
    · by_cases cb : f.getD (n + b) 0 < n
      · have qa : lsC f n a = true := decide_eq_true ca
        have qb : lsC f n b = true := decide_eq_true cb
        rw [qa, qb, Bool.and_true, if_pos rfl]
        have s1 := cnt_off (p := lsC f n) (q := fun y => if y = a then false else lsC f n y) (a := a) (n := n) (fun y _ h => if_neg h) ha qa (if_pos rfl)
        have s2 := cnt_off (p := fun y => if y = a then false else lsC f n y) (q := lsC (jn f (n + a) (n + b)) n) (a := b) (n := n) (fun y _ h => by
          by_cases e : y = a
          · rw [e, if_pos rfl]; exact pa
          · rw [if_neg e]; exact same y e h (by omega) (by omega)) hb (by rw [if_neg (Ne.symm hab)]; exact qb) pb
        omega
      · have qb : lsC f n b = false := decide_eq_false cb
        have qa : lsC f n a = true := decide_eq_true ca
        rw [qa, qb, if_neg (by decide), Nat.add_zero]
        -- the one at the other end of b's pair gets the strand
        have hv : f.getD (n + b) 0 - n < n := by omega
        have ev : n + (f.getD (n + b) 0 - n) = f.getD (n + b) 0 := by omega
        have qv : lsC f n (f.getD (n + b) 0 - n) = false := by unfold lsC; rw [ev, fb.2.2.1]; exact decide_eq_false (by omega)
        have pv : lsC (jn f (n + a) (n + b)) n (f.getD (n + b) 0 - n) = true := by
          unfold lsC; rw [ev, D, G, if_neg x3, if_neg x2, if_neg (Ne.symm x4), if_pos rfl]; exact decide_eq_true ca
        have s1 := cnt_off (p := lsC f n) (q := fun y => if y = a then false else lsC f n y) (a := a) (n := n) (fun y _ h => if_neg h) ha qa (if_pos rfl)
        have va : f.getD (n + b) 0 - n ≠ a := fun z => by rw [z, qa] at qv; cases qv
        have s2 := cnt_off (q := fun y => if y = a then false else lsC f n y) (p := lsC (jn f (n + a) (n + b)) n) (a := f.getD (n + b) 0 - n) (n := n) (fun y _ h => by
          by_cases e : y = a
          · rw [e, if_pos rfl]; exact pa.symm
          · rw [if_neg e]
            by_cases e2 : y = b
            · rw [e2, pb, qb]
            · exact (same y e e2 (by omega) (by omega)).symm) hv pv (by rw [if_neg va]; exact qv)
        omega
    · have qa : lsC f n a = false := decide_eq_false ca
      by_cases cb : f.getD (n + b) 0 < n
      · have qb : lsC f n b = true := decide_eq_true cb
        rw [qa, qb, if_neg (by decide), Nat.add_zero]
        have hv : f.getD (n + a) 0 - n < n := by omega
        have ev : n + (f.getD (n + a) 0 - n) = f.getD (n + a) 0 := by omega
        have qv : lsC f n (f.getD (n + a) 0 - n) = false := by unfold lsC; rw [ev, fa.2.2.1]; exact decide_eq_false (by omega)
        have pv : lsC (jn f (n + a) (n + b)) n (f.getD (n + a) 0 - n) = true := by
          unfold lsC; rw [ev, D, G, if_neg x1, if_neg hc, if_pos rfl]; exact decide_eq_true cb
        have s1 := cnt_off (p := lsC f n) (q := fun y => if y = b then false else lsC f n y) (a := b) (n := n) (fun y _ h => if_neg h) hb qb (if_pos rfl)
        have vb : f.getD (n + a) 0 - n ≠ b := fun z => by rw [z, qb] at qv; cases qv
        have s2 := cnt_off (q := fun y => if y = b then false else lsC f n y) (p := lsC (jn f (n + a) (n + b)) n) (a := f.getD (n + a) 0 - n) (n := n) (fun y _ h => by
          by_cases e : y = b
          · rw [e, if_pos rfl]; exact pb.symm
          · rw [if_neg e]
            by_cases e2 : y = a
            · rw [e2, pa, qa]
            · exact (same y e2 e (by omega) (by omega)).symm) hv pv (by rw [if_neg vb]; exact qv)
        omega
      · have qb : lsC f n b = false := decide_eq_false cb
        rw [qa, qb, if_neg (by decide), Nat.add_zero]
        refine cnt_same fun y hy => ?_
        by_cases e1 : y = a
        · rw [e1, pa, qa]
        · by_cases e2 : y = b
          · rw [e2, pb, qb]
          · by_cases e3 : n + y = f.getD (n + a) 0
            · have h1 : lsC f n y = false := by unfold lsC; rw [e3, fa.2.2.1]; exact decide_eq_false (by omega)
              have h2 : lsC (jn f (n + a) (n + b)) n y = false := by unfold lsC; rw [e3, D, G, if_neg x1, if_neg hc, if_pos rfl]; exact decide_eq_false cb
              rw [h1, h2]
            · by_cases e4 : n + y = f.getD (n + b) 0
              · have h1 : lsC f n y = false := by unfold lsC; rw [e4, fb.2.2.1]; exact decide_eq_false (by omega)
                have h2 : lsC (jn f (n + a) (n + b)) n y = false := by unfold lsC; rw [e4, D, G, if_neg x3, if_neg x2, if_neg (Ne.symm x4), if_pos rfl]; exact decide_eq_false ca
                rw [h1, h2]
              · exact same y e1 e2 e3 e4
/-! ### how many pairings -/
def dfac : Nat → Nat
  | 0 => 1
  | r + 1 => dfac r * (2 * r + 1)
theorem dfac_pos : ∀ r, 0 < dfac r
  | 0 => Nat.one_pos
  | r + 1 => Nat.mul_pos (dfac_pos r) (by omega)
theorem dfac_dvd (r : Nat) : ∀ k, dfac r ∣ dfac (r + k)
  | 0 => Nat.dvd_refl _
  | k + 1 => Nat.dvd_trans (dfac_dvd r k) ⟨2 * (r + k) + 1, rfl⟩
end Pc
namespace Pc
open PySem PySem.Spec PyProof.Rows L2 RZ
section
variable {P : Program} {w : World} {K : PySem.W.Frag} {mg : Str → Option Value} {base : Heap}
/-! ### one of some -/
def spOf (K : PySem.W.Frag) : Sp := fun vs H Q _ => ∃ (b a : Addr) (n : Nat) (xs : List V), vs = [.ref b, .ref a] ∧ Box (n + 1) H b ∧ a ≠ b ∧ H a = some (.lst xs) ∧ 0 < xs.length ∧ xs.length ≤ 1000 ∧
  ∀ (H' : Hp) (i : Nat) (v : V), xs[i]? = some v → Keep b H H' → Box n H' b → Q v H'
theorem ok_pick (T : Env K mg) : FnOk P w K mg base CX0 2 T.f_pick T.d_pick ["_law_box_here", "_law_some"] (spOf K) := by
  have GT : FnOk P w K mg base CX0 1 T.f_take T.d_take ["_law_box_here", "_law_below"] spTake := ok_take T
  refine T.F_pick.ok sc_pick (fun vs H Q E h => ?_) (fun cdv A outer s H vs Q E hr h => ?_)
  · obtain ⟨b, a, n, xs, rfl, _⟩ := h
    rfl
  · obtain ⟨b, a, n, xs, rfl, hB, hab, ha, h0, hl, q⟩ := h
    refine ⟨_, pss_one (ps_ret (pe_ix ix_list (pv 1) (pe_call GT hr (by rfl) T.g_take T.F_take.kp T.b_take .nil pass0 (pa_cons (pv 0) (pa_cons (pe_callB call_len_seq (by rfl) T.n_len PySem.boot_len (pa_cons (pv 1) pa_nil)) pa_nil))) (fun _ _ => rfl))), ?_⟩
    refine ⟨.ref a, rfl, .ref b, rfl, .ref a, rfl, a, xs, rfl, .inl (.inl (.inl ha)), b, n, xs.length, rfl, hB, by omega, by omega, fun r H' r0 r1 hB' k => ?_⟩
    obtain ⟨v, hv⟩ := get_some (l := xs) (i := r.toNat) (by omega)
    refine ⟨a, xs, r, v, rfl, rfl, .inl (.inl (k _ _ hab ha)), ?_, q H' r.toNat v hv k hB'⟩
    have := atI_nat hv
    rw [show ((r.toNat : Nat) : Int) = r by omega] at this
    exact this
end
end Pc
namespace Pc
/-- all calls of n people -/
def callsOf (n x : Nat) : List (Nat × Nat) := (List.range (n - (x + 1))).map fun j => (x, x + 1 + j)
def allC (n : Nat) : Nat → List (Nat × Nat)
  | 0 => []
  | i + 1 => allC n i ++ callsOf n i
theorem callsOf_mem {n x : Nat} {p : Nat × Nat} : p ∈ callsOf n x ↔ p.1 = x ∧ x < p.2 ∧ p.2 < n := by
  unfold callsOf
  rw [List.mem_map]
  constructor
  · rintro ⟨j, hj, rfl⟩
    have := List.mem_range.mp hj
    exact ⟨rfl, by show x < x + 1 + j; omega, by show x + 1 + j < n; omega⟩
  · rintro ⟨h1, h2, h3⟩
    exact ⟨p.2 - (x + 1), List.mem_range.mpr (by omega), Prod.ext h1.symm (by show x + 1 + (p.2 - (x + 1)) = p.2; omega)⟩
theorem allC_mem {n : Nat} : ∀ {i : Nat} {p : Nat × Nat}, p ∈ allC n i ↔ p.1 < i ∧ p.1 < p.2 ∧ p.2 < n
  | 0, p => ⟨fun h => by simp [allC] at h, fun h => absurd h.1 (Nat.not_lt_zero _)⟩
  | i + 1, p => by
    show p ∈ allC n i ++ callsOf n i ↔ _
    rw [List.mem_append, allC_mem (i := i), callsOf_mem]
    omega
theorem allC_calls (n i : Nat) : Calls n (allC n i) := fun q hq => by
  have := allC_mem.mp hq
  exact ⟨this.2.1, this.2.2⟩
theorem allC_len (n : Nat) : ∀ i, (allC n i).length ≤ i * n
  | 0 => Nat.zero_le _
  | i + 1 => by
    show (allC n i ++ callsOf n i).length ≤ _
    rw [List.length_append, Nat.succ_mul]
    have := allC_len n i
    have : (callsOf n i).length ≤ n := by unfold callsOf; rw [List.length_map, List.length_range]; omega
    omega
end Pc
namespace Pc
open PySem PySem.Spec PyProof.Rows L2 RZ
section
variable {P : Program} {w : World} {K : PySem.W.Frag} {mg : Str → Option Value} {base : Heap}
/-! ### all calls -/
def spCalls : Sp := fun vs H Q _ => ∃ n : Nat, vs = [.int n] ∧ n ≤ 40 ∧
  ∀ (H' : Hp) (p : Addr) (as : List Addr), Same H H' → H p = none → H' p = some (.lst (as.map V.ref)) → Prs H' as (allC n n) → Q (.ref p) H'
theorem ok_calls (T : Env K mg) : FnOk P w K mg base CX0 1 T.f_calls T.d_calls ["_law_size"] spCalls := by
  refine T.F_calls.ok sc_calls (fun vs H Q E h => ?_) (fun cdv A outer s H vs Q E hr h => ?_)
  · obtain ⟨n, rfl, _⟩ := h
    rfl
  · obtain ⟨n, rfl, hn, q⟩ := h
    refine ⟨_, pss_cons (ps_set (i := 1) sc_calls.nd rfl (.inl rfl) (pe_lst pa_nil)) <|
      pss_cons (ps_for PassesOwn.never rfl (pi_range1 (by rfl) T.n_range (pa_cons (pv 0) pa_nil)) (pg_name (i := 2) sc_calls.nd rfl (.inr rfl))
        (pss_one (ps_set (i := 1) sc_calls.nd rfl (.inl rfl) (pe_op op_cat (pv 1) (pe_lc (own := [("_law_high", 3)]) (g := gName 3) (tt := tYes) (te := tTup (tCons (tVar 2) (tCons (tVar 3) tNil))) rfl sc_calls.nd
          (pi_range2 (by rfl) T.n_range (pa_cons (pe_op op_add (pv 2) pe_int) (pa_cons (pv 0) pa_nil))) (blkOk_by (N := N_calls) (sc := defScope s_calls) (by decide +kernel)) (fun _ _ _ _ _ => pg_name (i := 3) sc_calls.nd rfl (.inl rfl)) (fun _ _ _ _ _ => pts_nil)
          (fun _ _ _ _ _ => pe_tup (pa_cons (pv 2) (pa_cons (pv 3) pa_nil)))))))) <|
      pss_one (ps_ret (pv 1)), ?_⟩
    refine ⟨by show 0 ≤ sizeLine; decide, fun e ne => ?_⟩
    refine ⟨_, rfl, _, rfl, by omega, by omega, ?_⟩
    rw [show ((n : Int)).toNat = n by omega]
    refine for_range (n := n) (fun i σ H' => Same H H' ∧ ∃ (f : Addr) (as : List Addr) (y : Option V), σ = [some (.int n), some (.ref f), y, none] ∧ H f = none ∧ H' f = some (.lst (as.map V.ref)) ∧ Prs H' as (allC n i)) ⟨same_new ne, e, [], none, rfl, ne, upd_same, .nil⟩ (fun i σ H1 hi h => ?_) (fun σ H1 h => ?_)
    · obtain ⟨sm, f, as, y, rfl, nf, ef, hA⟩ := h
      refine ⟨_, rfl, _, rfl, _, 1, rfl, rfl, _, rfl, _, _, rfl, ⟨by omega, by omega, by omega, by omega⟩, fun D nD => ?_⟩
      rw [show ((n : Int) - ((0 : Int) + (i : Nat) + 1)).toNat = n - (i + 1) by omega]
      have hlc : (callsOf n i).length = n - (i + 1) := by unfold callsOf; rw [List.length_map, List.length_range]
      refine lc_range (n := n - (i + 1)) (fun j H' => Same H1 H' ∧ ∃ bs : List Addr, H' D = some (.lst (bs.map V.ref)) ∧ Prs H' bs ((callsOf n i).take j)) ⟨same_new nD, [], upd_same, .nil⟩ (fun j H' hj hPv => ?_) (fun H' hPv => ?_)
      · obtain ⟨s2, bs, eD, hBs⟩ := hPv
        refine ⟨rfl, yes_if ⟨_, rfl, _, rfl, by show 2 ≤ sizeLine; decide, fun u nu => ⟨_, same_new nu _ _ eD, ?_, fun x o hx => ?_, bs ++ [u], ?_, ?_⟩⟩⟩
        · rw [List.length_map, hBs.length, List.length_take]; exact small1000 (by omega)
        · rw [upd_ne (ne_of_none hx nD)]; exact same_new nu _ _ (s2 _ _ hx)
        · rw [upd_same, List.map_append]; rfl
        · have uD : u ≠ D := fun z => by rw [z, eD] at nu; cases nu
          have ej : (callsOf n i)[j]? = some (i, i + 1 + j) := by unfold callsOf; rw [List.getElem?_map, List.getElem?_range hj]; rfl
          rw [List.take_add_one, ej]
          refine prs_append (prs_keep (b := D) keep_upd (same_new nu _ _ eD) (prs_same (same_new nu) hBs)) (.cons ?_ .nil)
          rw [upd_ne uD, upd_same]
          show some (HO.tup [V.int ((0 : Int) + (i : Nat)), V.int ((0 : Int) + (i : Nat) + 1 + (j : Nat))]) = some (HO.tup [V.int (i : Nat), V.int ((i + 1 + j : Nat) : Int)])
          rw [show (0 : Int) + (i : Nat) + 1 + (j : Nat) = ((i + 1 + j : Nat) : Int) by omega, Int.zero_add]
      · obtain ⟨s2, bs, eD, hBs⟩ := hPv
        rw [← hlc, List.take_length] at hBs
        have hA' := prs_same s2 hA
        refine ⟨f, D, _, _, rfl, rfl, s2 _ _ ef, eD, ?_, fun g ng => ?_⟩
        · have l1 := allC_len n i
          have : i * n ≤ 40 * 40 := Nat.mul_le_mul (by omega) hn
          rw [List.length_map, List.length_map, hA.length, hBs.length, hlc]
          exact Nat.le_of_lt (line_big (by omega))
        refine ⟨(sm.trans s2).trans (same_new ng), g, as ++ bs, _, rfl, (sm.trans s2).free ng, by rw [upd_same, List.map_append], ?_⟩
        exact prs_same (same_new ng) (prs_append hA' hBs)
    · obtain ⟨sm, f, as, y, rfl, nf, ef, hA⟩ := h
      exact ⟨_, rfl, q H1 f as sm nf ef hA⟩
end
end Pc
namespace Pc
open PySem PySem.Spec PyProof.Rows L2 RZ
section
variable {P : Program} {w : World} {K : PySem.W.Frag} {mg : Str → Option Value} {base : Heap}
/-! ### drawn words -/
def spTour : Sp := fun vs H Q _ => ∃ (b : Addr) (k n m : Nat), vs = [.ref b, .int n, .int m] ∧ Box (k + m + 2) H b ∧ 2 ≤ n ∧ n ≤ 30 ∧ m ≤ 1000 ∧
  ∀ (H' : Hp) (p : Addr) (as : List Addr) (qs : List (Nat × Nat)), Calls n qs → qs.length ≤ m → H p = none → H' p = some (.lst (as.map V.ref)) → Prs H' as qs → Keep b H H' → Box k H' b → Q (.ref p) H'
theorem ok_tour_of (T : Env K mg) : FnOk P w K mg base CX0 3 T.f_tour_of T.d_tour_of ["_law_box_here", "_law_size", "_law_most"] spTour := by
  have GT : FnOk P w K mg base CX0 1 T.f_take T.d_take ["_law_box_here", "_law_below"] spTake := ok_take T
  have GO : FnOk P w K mg base CX0 2 T.f_pick T.d_pick ["_law_box_here", "_law_some"] (spOf K) := ok_pick T
  have GA : FnOk P w K mg base CX0 1 T.f_calls T.d_calls ["_law_size"] spCalls := ok_calls T
  refine T.F_tour_of.ok sc_tour_of (fun vs H Q E h => ?_) (fun cdv A outer s H vs Q E hr h => ?_)
  · obtain ⟨b, k, n, m, rfl, _⟩ := h
    rfl
  · obtain ⟨b, k, n, m, rfl, hB, h2, hn, hm, q⟩ := h
    have h1 := hr.mono (show 1 ≤ 2 by decide)
    refine ⟨_, pss_one (ps_ret (pe_lc (own := [("_law_turn", 3)]) (g := gName 3) (tt := tYes) (te := tCall (spOf K) [] (fun _ _ _ => False) (tCons (tVar 0) (tCons (tCall spCalls [] (fun _ _ _ => False) (tCons (tVar 1) tNil)) tNil))) rfl sc_tour_of.nd
        (pi_range1 (by rfl) T.n_range (pa_cons (pe_call GT h1 (by rfl) T.g_take T.F_take.kp T.b_take .nil pass0 (pa_cons (pv 0) (pa_cons (pe_op op_add (pv 2) pe_int) pa_nil))) pa_nil))
        (blkOk_by (N := N_tour_of) (sc := defScope s_tour_of) (by decide +kernel))
        (fun _ _ _ _ _ => pg_name (i := 3) sc_tour_of.nd rfl (.inl rfl)) (fun _ _ _ _ _ => pts_nil)
        (fun _ _ _ _ _ => pe_call GO hr (by rfl) T.g_pick T.F_pick.kp T.b_pick .nil pass0 (pa_cons (pv 0) (pa_cons (pe_call GA h1 (by rfl) T.g_calls T.F_calls.kp T.b_calls .nil pass0 (pa_cons (pv 1) pa_nil)) pa_nil))))), ?_⟩
    refine ⟨.ref b, rfl, .int m, rfl, m, 1, rfl, rfl, b, k + m, (m : Int) + 1, rfl, hB.mono (by omega), by omega, by omega, fun r H2 r0 r1 hB2 k2 => ?_⟩
    refine ⟨r, rfl, by omega, by omega, fun D nD => ?_⟩
    have bD : b ≠ D := hB2.ne_new nD
    have nD0 : H D = none := by
      cases e : H D with
      | none => rfl
      | some o => rw [k2 D o bD.symm e] at nD; cases nD
    have hall : (allC n n).length ≤ 900 := Nat.le_trans (allC_len n n) (Nat.mul_le_mul hn hn)
    have hpos : 0 < (allC n n).length := List.length_pos_of_mem (allC_mem.mpr (show ((0, 1) : Nat × Nat).1 < n ∧ ((0, 1) : Nat × Nat).1 < ((0, 1) : Nat × Nat).2 ∧ ((0, 1) : Nat × Nat).2 < n from ⟨by show 0 < n; omega, by decide, by show 1 < n; omega⟩))
    refine lc_range (n := r.toNat) (fun j H' => Keep b H2 H' ∧ Box (k + m - j) H' b ∧ ∃ (as : List Addr) (qs : List (Nat × Nat)), H' D = some (.lst (as.map V.ref)) ∧ Prs H' as qs ∧ Calls n qs ∧ qs.length = j)
      ⟨Keep.of_same (same_new nD), (hB2.same (same_new nD)), [], [], upd_same, .nil, fun q hq => by simp at hq, rfl⟩ (fun j H' hj hPv => ?_) (fun H' hPv => ?_)
    · obtain ⟨k3, hB3, as, qs, eD, hA, hc, hql⟩ := hPv
      refine ⟨rfl, yes_if ⟨.ref b, rfl, _, rfl, n, rfl, by omega, fun H4 l cs s4 nl el hC => ?_⟩⟩
      have hlen : (cs.map V.ref).length = (allC n n).length := by rw [List.length_map, hC.length]
      refine ⟨b, l, k + m - (j + 1), _, rfl, (hB3.same s4).mono (by omega), (hB3.ne_new nl).symm, el, by rw [hlen]; exact hpos, by rw [hlen]; omega, fun H5 i v hv k5 hB5 => ?_⟩
      rw [List.getElem?_map] at hv
      cases eu : cs[i]? with
      | none => rw [eu] at hv; cases hv
      | some t =>
      rw [eu] at hv
      cases Option.some.inj hv
      obtain ⟨p, ep, ht⟩ := prs_get hC eu
      obtain ⟨yb, hyb⟩ := hB3.lst
      have ht5 := k5.tup (s4 _ _ hyb) ht
      have eD5 := k5 _ _ bD.symm (s4 _ _ eD)
      have ntD : t ≠ D := fun z => by rw [z, eD5] at ht5; cases ht5
      have hpm := allC_calls n n p (List.mem_of_getElem? ep)
      refine ⟨_, eD5, small1000 (by rw [List.length_map, hA.length]; omega), fun a o na ha => ?_, hB5.keep (c := D) keep_upd bD, as ++ [t], qs ++ [p], ?_, ?_, ?_, ?_⟩
      · rw [upd_ne (ne_of_none ha nD)]; exact k5 _ _ na (s4 _ _ (k3 _ _ na ha))
      · rw [upd_same, List.map_append]; rfl
      · refine prs_append (prs_keep (b := D) keep_upd eD5 (prs_keep k5 (s4 _ _ hyb) (prs_same s4 hA))) (.cons ?_ .nil)
        rw [upd_ne ntD]; exact ht5
      · intro q hq
        rcases List.mem_append.mp hq with z | z
        · exact hc q z
        · rw [List.mem_singleton.mp z]; exact hpm
      · rw [List.length_append, hql]; rfl
    · obtain ⟨k3, hB3, as, qs, eD, hA, hc, hql⟩ := hPv
      exact q H' D as qs hc (by omega) nD0 eD hA (k2.trans k3) (hB3.mono (by omega))
end
end Pc
namespace Pc
open PySem PySem.Spec PyProof.Rows L2 RZ
section
variable {P : Program} {w : World} {K : PySem.W.Frag} {mg : Str → Option Value} {base : Heap}
/-! ### a drawn pairing -/
def spTie : Sp := fun vs H Q _ => ∃ (b : Addr) (n k : Nat), vs = [.ref b, .int k] ∧ Box (n + k) H b ∧ k % 2 = 0 ∧ k ≤ 1000 ∧
  ∀ (H' : Hp) (p : Addr) (ps : List Nat), IsPair k ps → Keep b H H' → Box n H' b → H p = none → H' p = some (.tup (nv ps)) → Q (.ref p) H'
theorem ok_drawn_tie (T : Env K mg) : FnOk P w K mg base CX0 3 T.f_drawn_tie T.d_drawn_tie ["_law_box_here", "_law_size"] spTie := by
  have GS : FnOk P w K mg base CX0 2 T.f_strewn T.d_strewn ["_law_box_here", "_law_some"] (spStrewn K) := ok_strewn T
  refine T.F_drawn_tie.ok sc_drawn_tie (fun vs H Q E h => ?_) (fun cdv A outer s H vs Q E hr h => ?_)
  · obtain ⟨b, n, k, rfl, _⟩ := h
    rfl
  · obtain ⟨b, n, k, rfl, hB, he, hk, q⟩ := h
    refine ⟨_, pss_cons (ps_par (by rfl) sc_drawn_tie.nd (i := 2) (j := 3) rfl rfl (by decide) rfl rfl (pa_cons (pe_call GS hr (by rfl) T.g_strewn T.F_strewn.kp T.b_strewn .nil pass0 (pa_cons (pv 0) (pa_cons (pe_listRg rfl (by rfl) T.n_list (prg_1 (by rfl) T.n_range (pv 1))) pa_nil))) (pa_cons (pe_op op_rep (pe_lst (pa_cons pe_int pa_nil)) (pv 1)) pa_nil)) (by rfl)) <|
      pss_cons (ps_for PassesOwn.never rfl (pi_range3 rfl T.n_range (pa_cons pe_int (pa_cons (pv 1) (pa_cons pe_int pa_nil)))) (pg_name (i := 4) sc_drawn_tie.nd rfl (.inl rfl))
        (pss_cons (ps_asg (pe_ix ix_list (pv 2) (pe_op op_add (pv 4) pe_int) (fun _ _ => rfl)) (pg_sub (pv 3) (pe_ix ix_list (pv 2) (pv 4) (fun _ _ => rfl)) set_list)) <|
        pss_one (ps_asg (pe_ix ix_list (pv 2) (pv 4) (fun _ _ => rfl)) (pg_sub (pv 3) (pe_ix ix_list (pv 2) (pe_op op_add (pv 4) pe_int) (fun _ _ => rfl)) set_list)))) <|
      pss_one (ps_ret (pe_callTy call_tuple_of (by rfl) T.n_tuple (by decide +kernel) (pa_cons (pv 3) pa_nil))), ?_⟩
    refine ⟨.ref b, rfl, .int k, rfl, k, rfl, RgOk.of_le (by decide) (by omega) (by decide) (by omega), fun a na => ?_⟩
    have s1 : Same H _ := same_new (o := .lst (rgV 0 (k : Int))) na
    have hl : (rgV 0 (k : Int)).length = k := by rw [rgV_length]; omega
    refine ⟨b, a, n, _, rfl, (hB.same s1).mono (by rw [hl]; exact Nat.le_refl _), .inl (.inl upd_same), by rw [hl]; exact hk, fun H2 p2 ys hp hk2 hb2 np2 ep2 => ?_⟩
    obtain ⟨os, e1, e2⟩ := perm_map_inv (fun (i : Nat) => V.int (i : Int)) hp.symm (List.range k) (rg_nv k)
    have ep3 : H2 p2 = some (.lst (nv os)) := by rw [ep2, e1]; rfl
    have k02 : Keep b H H2 := (Keep.of_same s1).trans hk2
    have hol : os.length = k := by rw [e2.length_eq, List.length_range]
    have hnd : os.Nodup := e2.nodup_iff.mpr List.nodup_range
    have hlt : ∀ z ∈ os, z < os.length := fun z hz => by rw [hol]; exact List.mem_range.mp (e2.mem_iff.mp hz)
    refine ⟨by show 1 ≤ sizeLine; decide, fun e ne => ?_⟩
    have s3 : Same H2 (upd H2 e (.lst [.int 0])) := same_new ne
    refine ⟨_, rfl, e, _, [.int 0], rfl, rfl, upd_same, by omega, by omega, ?_, fun f nf => ⟨_, _, rfl, ?_⟩⟩
    · show 1 * Int.toNat (k : Int) ≤ sizeLine
      exact Nat.le_of_lt (small1000 (by omega))
    have s4 : Same H2 _ := s3.trans (same_new (o := .lst (List.replicate (k : Int).toNat [V.int 0]).flatten) nf)
    have nf2 : H2 f = none := s3.free nf
    have e0 : (List.replicate (k : Int).toNat [V.int 0]).flatten = nv (List.replicate k 0) := by
      rw [rep_flat, Int.toNat_natCast]
      unfold nv
      rw [List.map_replicate]; rfl
    refine ⟨_, rfl, 0, _, 2, k / 2, rfl, ?_, ?_⟩
    · have := rgc_two (n := k) (by omega)
      rw [show (k + 1) / 2 = k / 2 by omega] at this
      exact this
    refine for_rangeC (fun t σ H' => Same H2 H' ∧ ∃ (y : Option V) (fs : List Nat), σ = [some (.ref b), some (.int k), some (.ref p2), some (.ref f), y] ∧ H' f = some (.lst (nv fs)) ∧ PInv os fs t)
      ⟨s4, none, List.replicate k 0, rfl, by rw [upd_same, e0], by rw [List.length_replicate, hol], fun j hj => absurd hj (Nat.not_lt_zero _)⟩ (fun t σ H' ht h => ?_) (fun σ H' h => ?_)
    · obtain ⟨sm, y, fs, rfl, ef, pi⟩ := h
      obtain ⟨x1, g1⟩ := get_some (l := os) (i := 2 * t) (by omega)
      obtain ⟨x2, g2⟩ := get_some (l := os) (i := 2 * t + 1) (by omega)
      have hS' : SqL K H' p2 (nv os) := .inl (.inl (sm _ _ ep3))
      have ea : atI (nv os) ((0 : Int) + (t : Nat) * 2) = some (.int x1) := by
        rw [show (0 : Int) + (t : Nat) * 2 = ((2 * t : Nat) : Int) by omega]; exact nv_at g1
      have eb : atI (nv os) ((0 : Int) + (t : Nat) * 2 + 1) = some (.int x2) := by
        rw [show (0 : Int) + (t : Nat) * 2 + 1 = ((2 * t + 1 : Nat) : Int) by omega]; exact nv_at g2
      have l1 : x1 < fs.length := by rw [pi.1]; exact hlt _ (List.mem_of_getElem? g1)
      have l2 : x2 < fs.length := by rw [pi.1]; exact hlt _ (List.mem_of_getElem? g2)
      refine ⟨_, rfl, _, rfl, _, 1, rfl, rfl, p2, _, _, _, rfl, rfl, hS', eb, _, rfl, _, rfl, _, rfl, p2, _, _, _, rfl, rfl, hS', ea, f, _, _, x1, rfl, rfl, ef, ixN_nat (by rw [nv_length]; exact l1), ?_⟩
      have pf : p2 ≠ f := ne_of_none ep3 nf2
      have hS2 : SqL K (upd H' f (.lst ((nv fs).set x1 (.int x2)))) p2 (nv os) := .inl (.inl (by rw [upd_ne pf]; exact sm _ _ ep3))
      refine ⟨_, rfl, _, rfl, p2, _, _, _, rfl, rfl, hS2, ea, _, rfl, _, rfl, _, rfl, _, 1, rfl, rfl, p2, _, _, _, rfl, rfl, hS2, eb, f, _, _, x2, rfl, rfl, upd_same, ?_, ?_⟩
      · rw [List.length_set]; exact ixN_nat (by rw [nv_length]; exact l2)
      · refine ⟨fun z o hz => ?_, _, (fs.set x1 x2).set x2 x1, rfl, ?_, pi.step hnd hlt g1 g2⟩
        · rw [upd_ne (ne_of_none hz nf2), upd_ne (ne_of_none hz nf2)]; exact sm _ _ hz
        · rw [upd_same, nv_set, nv_set]
    · obtain ⟨sm, y, fs, rfl, ef, pi⟩ := h
      refine ⟨.ref f, rfl, f, _, rfl, .inl ⟨.inl (.inl ef), fun p np => ?_⟩⟩
      have s5 := sm.trans (same_new (o := .tup (nv fs)) np)
      refine q _ p fs (pi.done e2 he) (k02.trans (Keep.of_same s5)) (hb2.same s5) ?_ upd_same
      have np2 := sm.free np
      cases hh : H p with
      | none => rfl
      | some o =>
        have hpb : p ≠ b := fun z => by
          subst z
          obtain ⟨x, y, z, ex, _⟩ := hb2
          rw [ex] at np2; cases np2
        rw [k02 p o hpb hh] at np2; cases np2
end
end Pc
namespace Pc
open PySem PySem.Spec PyProof.Rows L2 RZ
/-! ### data of small size, by its depth -/
def Sz : Nat → Nat
  | 0 => 61
  | 1 => 6303
  | 2 => 630503
  | _ => 15762628
abbrev Fi (j : Nat) (d : PyData) : Prop := Fine j (Sz j) d
theorem Sz_le : ∀ j, Sz j ≤ Sz (j + 1)
  | 0 => by decide
  | 1 => by decide
  | 2 => by decide
  | _ + 3 => Nat.le_refl _
theorem Fine.up {j : Nat} {d : PyData} (h : Fi j d) : Fi (j + 1) d := h.mono (Nat.le_succ _) (Sz_le j)
theorem Fine.sh {j : Nat} {d : PyData} (h : Fi j d) (hj : j ≤ 60 := by decide) : SeqAt.shaped d = true := Fine.shaped h (by omega)
theorem fi_int {i : Int} (h : i.natAbs < 2 ^ 60) : Fi 0 (.int i) := fine_int h
theorem fi_bl {b : Bool} : Fi 0 (.bool b) := ⟨rfl, rfl, Nat.le_refl _, trivial, by cases b <;> decide⟩
theorem fi_non : Fi 0 .none := ⟨rfl, rfl, Nat.le_refl _, trivial, by decide⟩
theorem fi_tup {l : List Nat} {m : Nat} (hl : IsPair m l) (hm : m ≤ 100) : Fi 1 (td l) := (fine_tup (n := 100) (fun i hi => by have := hl.lt i hi; omega) (by rw [hl.len]; omega) (by decide)).mono (Nat.le_refl _) (by decide)
/-- numbers of small size, not many -/
def Fw (l : List Nat) : Prop := l.length ≤ 100 ∧ ∀ i ∈ l, i < 2 ^ 60
theorem fb {l : List Nat} {m : Nat} (hl : IsPair m l) (hm : m ≤ 100) : Fw l := ⟨by rw [hl.len]; exact hm, fun i hi => by have := hl.lt i hi; omega⟩
theorem fi_tup' {l : List Nat} (h : Fw l) : Fi 1 (td l) := (fine_tup (n := 100) h.2 h.1 (by decide)).mono (Nat.le_refl _) (by decide)
theorem fi_lst {l : List Nat} (h : Fw l) : Fi 1 (.list (nd l)) := (fine_list (k := 0) (m := 61) (n := 100) (fine_nd h.2) (by rw [nd_length]; exact h.1) (by decide)).mono (Nat.le_refl _) (by decide)
theorem fi_prs {qs : List (Nat × Nat)} (h : qs.length ≤ 1000 ∧ ∀ p ∈ qs, p.1 < 2 ^ 60 ∧ p.2 < 2 ^ 60) : Fi 2 (.list (qs.map pd)) := (fine_pds (n := 1000) h.2 h.1 (by decide)).mono (Nat.le_refl _) (by decide)
theorem fa_nil {j : Nat} : ∀ d ∈ ([] : List PyData), Fi j d := fun _ h => absurd h List.not_mem_nil
theorem fa_cons {j : Nat} {d : PyData} {ds : List PyData} (h : Fi j d) (r : ∀ x ∈ ds, Fi j x) : ∀ x ∈ d :: ds, Fi j x := fun x hx => (List.mem_cons.mp hx).elim (fun e => by rw [e]; exact h) (r x)
def Few (j n : Nat) : Prop := n * (Sz j + 2) + 3 ≤ Sz (j + 1) ∧ n ≤ 100000
instance (j n : Nat) : Decidable (Few j n) := by unfold Few; infer_instance
theorem fi_list {j : Nat} {ds : List PyData} (h : ∀ d ∈ ds, Fi j d) (hn : n = ds.length := by rfl) (hf : Few j n := by decide) : Fi (j + 1) (.list ds) := (fine_list (k := j) (m := Sz j) (n := n) h (by rw [hn]; exact Nat.le_refl _) hf.2).mono (Nat.le_refl _) hf.1
theorem fi_tuple {j : Nat} {ds : List PyData} (h : ∀ d ∈ ds, Fi j d) (hn : n = ds.length := by rfl) (hf : Few j n := by decide) : Fi (j + 1) (.tuple ds) := (fine_tuple (k := j) (m := Sz j) (n := n) h (by rw [hn]; exact Nat.le_refl _) hf.2).mono (Nat.le_refl _) hf.1
theorem fi_ne {j : Nat} {d : PyData} (h : Fi j d) : (!PyData.eqv d d) = false := by
  rw [PySem.SeqAt.eqv_refl _ h.lay]; rfl
theorem fi_eq {j : Nat} {d : PyData} (h : Fi j d) : PyData.eqv d d = true := PySem.SeqAt.eqv_refl _ h.lay
/-! ### arguments by name, in another order -/
def pm10 {α : Type} : List α → List α
  | [a, b] => [b, a]
  | l => l
theorem rel_pm10 {zs : List V} {ws : List Value} (_ : zs.length = 2) (r : Vals zs ws) : Vals (pm10 zs) (pm10 ws) := by
  match zs, ws, r with
  | [], _, .nil => exact .nil
  | [_], _, .cons h .nil => exact .cons h .nil
  | [_, _], _, .cons h1 (.cons h2 .nil) => exact .cons h2 (.cons h1 .nil)
  | _ :: _ :: _ :: _, _, .cons h1 (.cons h2 (.cons h3 r)) => exact .cons h1 (.cons h2 (.cons h3 r))
def pm0 {α : Type} (l : List α) : List α := l
theorem rel_pm0 {zs : List V} {ws : List Value} (_ : zs.length = 1) (r : Vals zs ws) : Vals (pm0 zs) (pm0 ws) := r
end Pc
namespace Pc
open PySem PySem.Spec PyProof.Rows L2 RZ
theorem calls_app {n : Nat} {qs rs : List (Nat × Nat)} (h : Calls n qs) (g : Calls n rs) : Calls n (qs ++ rs) := fun q hq => (List.mem_append.mp hq).elim (h q) (g q)
end Pc
namespace Pc
open PySem PySem.Spec PyProof.Rows L2 RZ
/-- the slots, written out -/
theorem st_eq {t : TS} {D : L2.Ends} {σ : L2.St} {H : Hp} (σ' : L2.St) (h : t D σ' H) (e : σ = σ') : t D σ H := by rw [e]; exact h
end Pc
namespace Pc
open PySem PySem.Spec PyProof.Rows L2 RZ
theorem st_set {i : Nat} {v : V} {σ : L2.St} {H : Hp} {Q : L2.St → Hp → Prop} (σ' : L2.St) (h : Q σ' H) (e : σ.set i (some v) = σ') : gName i v σ H Q := by
  unfold gName
  rw [e]; exact h
end Pc
namespace Pc
open PySem PySem.Spec PyProof.Rows L2 RZ
theorem fi_same {x y : V} (e : x = y) : (!decide (x = y)) = false := by rw [decide_eq_true e]; rfl
theorem fi_is {x y : V} (e : x = y) : decide (x = y) = true := decide_eq_true e
end Pc
namespace Pc
open PySem PySem.Spec PyProof.Rows L2 RZ
theorem st_kept {D : L2.Ends} {i : Nat} {a C d : Addr} {σ1 : L2.St} {H : Hp} (σ' : L2.St) (h : D.nx σ' (upd H a (exk a (.ref C) (some d)))) (e : σ1.set i none = σ') :
    ({ nx := fun σ'' H'' => D.nx (σ''.set i none) (upd H'' a (exk a (.ref C) (some d))), rt := fun _ _ => False } : L2.Ends).nx σ1 H := by
  show D.nx (σ1.set i none) _
  rw [e]; exact h
end Pc
namespace Pc
open PySem PySem.Spec PyProof.Rows L2 RZ
theorem st_setH {i : Nat} {v : V} {σ : L2.St} {H : Hp} {Q : L2.St → Hp → Prop} (σ' : L2.St) (H' : Hp) (h : Q σ' H') (e : σ.set i (some v) = σ') (eh : H = H') : gName i v σ H Q := by
  unfold gName
  rw [e, eh]; exact h
end Pc
namespace Pc
open PySem PySem.Spec PyProof.Rows L2 RZ
section
variable {P : Program} {w : World} {K : PySem.W.Frag} {mg : Str → Option Value} {base : Heap}
/-! ### the looks at calls: valid ones raise nothing -/
def spCheckPerson : Sp := fun vs H Q _ => ∃ (n u : Nat), vs = [.int n, .int u] ∧ u < n ∧ Q .non H
theorem ok_p_check_person (T : Env K mg) : FnOk P w K mg base CX0 1 T.f_p_check_person T.d_p_check_person ["size", "person"] spCheckPerson := by
  refine T.F_p_check_person.ok sc_p_check_person (fun vs H Q E h => ?_) (fun cdv A outer s H vs Q E hr h => ?_)
  · obtain ⟨n, u, rfl, _⟩ := h
    rfl
  · obtain ⟨n, u, rfl, hu, q⟩ := h
    refine ⟨_, pss_one (ps_if (pt_not (pt_chain op_le op_lt pe_int (pv 1) (pv 0))) pss_never pss_nil), ?_⟩
    refine ⟨_, rfl, 0, u, rfl, rfl, _, rfl, ?_⟩
    rw [decide_eq_true (show (0 : Int) ≤ (u : Int) by omega)]
    refine iteT ⟨.int n, rfl, u, n, rfl, rfl, _, rfl, ?_⟩
    rw [decide_eq_true (show (u : Int) < (n : Int) by omega)]
    exact iteN q
def spCheckCall (K : PySem.W.Frag) : Sp := fun vs H Q _ => ∃ (n a b : Nat) (c : Addr), vs = [.int n, .ref c] ∧ Sq K H c [.int a, .int b] ∧ a < n ∧ b < n ∧ Q .non H
theorem ok_p_check_call (T : Env K mg) : FnOk P w K mg base CX0 2 T.f_p_check_call T.d_p_check_call ["size", "call"] (spCheckCall K) := by
  have G1 : FnOk P w K mg base CX0 1 T.f_p_check_person T.d_p_check_person ["size", "person"] spCheckPerson := ok_p_check_person T
  refine T.F_p_check_call.ok sc_p_check_call (fun vs H Q E h => ?_) (fun cdv A outer s H vs Q E hr h => ?_)
  · obtain ⟨n, a, b, c, rfl, _⟩ := h
    rfl
  · obtain ⟨n, a, b, c, rfl, hS, ha, hb, q⟩ := h
    refine ⟨_, pss_one (ps_for PassesOwn.never rfl (pi_seq (pv 1)) (pg_name (i := 2) sc_p_check_call.nd rfl (.inl rfl)) (pss_one (ps_expr (pe_call G1 hr (by rfl) T.g_p_check_person T.F_p_check_person.kp T.b_p_check_person .nil pass0 (pa_cons (pv 0) (pa_cons (pv 2) pa_nil)))))), ?_⟩
    refine ⟨.ref c, rfl, c, rfl, for_seq hS (fun i σ H' => H' = H ∧ ∃ y : Option V, σ = [some (.int n), some (.ref c), y]) ⟨rfl, none, rfl⟩ (fun i σ H' h => by rw [h.1]; exact Same.refl _) (fun i x σ H' hx h => ?_) (fun σ H' h => by rw [h.1]; exact q)⟩
    obtain ⟨rfl, y, rfl⟩ := h
    have hx' : ∃ u : Nat, x = .int u ∧ u < n := by
      have hi : i < 2 := get_lt hx
      rcases (show i = 0 ∨ i = 1 by omega) with z | z
      · subst z; exact ⟨a, (Option.some.inj hx).symm, ha⟩
      · subst z; exact ⟨b, (Option.some.inj hx).symm, hb⟩
    obtain ⟨u, rfl, hu⟩ := hx'
    exact ⟨_, rfl, _, rfl, n, u, rfl, hu, rfl, _, rfl⟩
def spCheckWord (K : PySem.W.Frag) : Sp := fun vs H Q _ => ∃ (n : Nat) (wd : Addr) (us : List V) (qs : List (Nat × Nat)), vs = [.int n, .ref wd] ∧ Sq K H wd us ∧ Items K H us qs ∧ Calls n qs ∧ Q .non H
theorem ok_p_check_word (T : Env K mg) : FnOk P w K mg base CX0 3 T.f_p_check_word T.d_p_check_word ["size", "word"] (spCheckWord K) := by
  have G1 : FnOk P w K mg base CX0 2 T.f_p_check_call T.d_p_check_call ["size", "call"] (spCheckCall K) := ok_p_check_call T
  refine T.F_p_check_word.ok sc_p_check_word (fun vs H Q E h => ?_) (fun cdv A outer s H vs Q E hr h => ?_)
  · obtain ⟨n, wd, us, qs, rfl, _⟩ := h
    rfl
  · obtain ⟨n, wd, us, qs, rfl, hS, hI, hc, q⟩ := h
    refine ⟨_, pss_one (ps_for PassesOwn.never rfl (pi_seq (pv 1)) (pg_name (i := 2) sc_p_check_word.nd rfl (.inl rfl)) (pss_one (ps_expr (pe_call G1 hr (by rfl) T.g_p_check_call T.F_p_check_call.kp T.b_p_check_call .nil pass0 (pa_cons (pv 0) (pa_cons (pv 2) pa_nil)))))), ?_⟩
    refine ⟨.ref wd, rfl, wd, rfl, for_seq hS (fun i σ H' => H' = H ∧ ∃ y : Option V, σ = [some (.int n), some (.ref wd), y]) ⟨rfl, none, rfl⟩ (fun i σ H' h => by rw [h.1]; exact Same.refl _) (fun i x σ H' hx h => ?_) (fun σ H' h => by rw [h.1]; exact q)⟩
    obtain ⟨rfl, y, rfl⟩ := h
    obtain ⟨c, p, rfl, hp, hq⟩ := hI.2 i x hx
    have := hc p (List.mem_of_getElem? hp)
    exact ⟨.int n, rfl, .ref c, rfl, n, p.1, p.2, c, rfl, hq, by omega, by omega, rfl, _, rfl⟩
/-! ### join_two -/
def spJoin : Sp := fun vs H Q _ => ∃ (j : Addr) (fs : List Nat) (n a b : Nat), vs = [.ref j, .int a, .int b] ∧ H j = some (.lst (nv fs)) ∧ IsPair n fs ∧ a < n ∧ b < n ∧
  ∀ H' : Hp, H' j = some (.lst (nv (jn fs a b))) → Keep j H H' → Q (.bl (!decide (fs.getD a 0 = b))) H'
theorem ok_p_join_two (T : Env K mg) : FnOk P w K mg base CX0 1 T.f_p_join_two T.d_p_join_two ["joined", "a", "b"] spJoin := by
  refine T.F_p_join_two.ok sc_p_join_two (fun vs H Q E h => ?_) (fun cdv A outer s H vs Q E hr h => ?_)
  · obtain ⟨j, fs, n, a, b, rfl, _⟩ := h
    rfl
  · obtain ⟨j, fs, n, a, b, rfl, hj, hP, ha, hb, q⟩ := h
    refine ⟨_, pss_cons (ps_set (i := 3) sc_p_join_two.nd rfl (.inl rfl) (pe_ix ix_list (pv 0) (pv 1) (fun _ _ => rfl))) <|
      pss_cons (ps_set (i := 4) sc_p_join_two.nd rfl (.inl rfl) (pe_ix ix_list (pv 0) (pv 2) (fun _ _ => rfl))) <|
      pss_cons (ps_if (pt_cmpR op_eq (pv 3) (pv 2) (nomark _)) (pss_one (ps_ret pe_bl)) pss_nil) <|
      pss_cons (ps_asg (pv 2) (pg_sub (pv 0) (pv 1) set_list)) <| pss_cons (ps_asg (pv 1) (pg_sub (pv 0) (pv 2) set_list)) <|
      pss_cons (ps_asg (pv 4) (pg_sub (pv 0) (pv 3) set_list)) <| pss_cons (ps_asg (pv 3) (pg_sub (pv 0) (pv 4) set_list)) <| pss_one (ps_ret pe_bl), ?_⟩
    obtain ⟨c, ea, hc, _⟩ := hP.par a ha
    obtain ⟨d, eb, hd, _⟩ := hP.par b hb
    have hS : SqL K H j (nv fs) := .inl (.inl hj)
    have hl := hP.len
    refine ⟨.ref j, rfl, .int a, rfl, j, _, _, _, rfl, rfl, hS, nv_at ea, ?_⟩
    refine ⟨.ref j, rfl, .int b, rfl, j, _, _, _, rfl, rfl, hS, nv_at eb, ?_⟩
    refine ⟨_, rfl, _, rfl, rfl, _, rfl, ite2 (fun e => ?_) (fun e => ?_)⟩
    · have e1 : c = b := by have := V.int.inj (of_decide_eq_true e); omega
      subst e1
      have := q H (by rw [jn_same ea]; exact hj) (Keep.refl _ _)
      rw [getD_of ea, decide_eq_true rfl] at this
      exact this
    · have e1 : c ≠ b := fun z => e (by rw [z]; exact decide_eq_true rfl)
      have ln : ∀ {l : List V}, l.length = fs.length → ∀ {i : Nat}, i < n → ixN l.length (i : Int) = some i := fun {l} hl2 {i} hi => ixN_nat (by rw [hl2, hl]; exact hi)
      refine ⟨_, rfl, .ref j, rfl, _, rfl, j, _, _, a, rfl, rfl, hj, ln (nv_length _) ha, ?_⟩
      refine ⟨_, rfl, .ref j, rfl, _, rfl, j, _, _, b, rfl, rfl, upd_same, ln (by rw [List.length_set, nv_length]) hb, ?_⟩
      refine ⟨_, rfl, .ref j, rfl, _, rfl, j, _, _, c, rfl, rfl, upd_same, ln (by rw [List.length_set, List.length_set, nv_length]) hc, ?_⟩
      refine ⟨_, rfl, .ref j, rfl, _, rfl, j, _, _, d, rfl, rfl, upd_same, ln (by rw [List.length_set, List.length_set, List.length_set, nv_length]) hd, ?_⟩
      have := q (upd (upd (upd (upd H j (.lst ((nv fs).set a (.int b)))) j (.lst (((nv fs).set a (.int b)).set b (.int a)))) j (.lst ((((nv fs).set a (.int b)).set b (.int a)).set c (.int d)))) j (.lst (((((nv fs).set a (.int b)).set b (.int a)).set c (.int d)).set d (.int c))))
        (by
          rw [upd_same, nv_set, nv_set, nv_set, nv_set]
          unfold jn
          rw [getD_of ea, getD_of eb, if_neg e1])
        (fun x o nx hx => by rw [upd_ne nx, upd_ne nx, upd_ne nx, upd_ne nx]; exact hx)
      rw [getD_of ea, decide_eq_false e1] at this
      exact this
end
end Pc
namespace Pc
open PySem PySem.Spec PyProof.Rows L2 RZ
theorem emp_two (n : Nat) : emp n = ((List.range n).map fun i => n + i) ++ List.range n := by
  refine List.ext_getElem? fun z => ?_
  by_cases h : z < n
  · rw [emp_lo h, List.getElem?_append_left (by rw [List.length_map, List.length_range]; exact h), List.getElem?_map, List.getElem?_range h]
    rfl
  · rw [List.getElem?_append_right (by rw [List.length_map, List.length_range]; omega), List.length_map, List.length_range]
    by_cases h2 : z < 2 * n
    · have := emp_hi (n := n) (e := z - n) (by omega)
      rw [show n + (z - n) = z by omega] at this
      rw [this, List.getElem?_range (by omega)]
    · rw [List.getElem?_eq_none (by rw [emp_len]; omega), List.getElem?_eq_none (by rw [List.length_range]; omega)]
end Pc
namespace Pc
open PySem PySem.Spec PyProof.Rows L2 RZ
section
variable {P : Program} {w : World} {K : PySem.W.Frag} {mg : Str → Option Value} {base : Heap}
/-! ### the empty sheet -/
def spEmpty : Sp := fun vs H Q _ => ∃ n : Nat, vs = [.int n] ∧ n ≤ 1000 ∧ ∀ (H' : Hp) (t : Addr), Same H H' → H t = none → H' t = some (.tup (nv (emp n))) → Q (.ref t) H'
theorem ok_p_empty_sheet (T : Env K mg) : FnOk P w K mg base CX0 1 T.f_p_empty_sheet T.d_p_empty_sheet ["size"] spEmpty := by
  refine T.F_p_empty_sheet.ok sc_p_empty_sheet (fun vs H Q E h => ?_) (fun cdv A outer s H vs Q E hr h => ?_)
  · obtain ⟨n, rfl, _⟩ := h
    rfl
  · obtain ⟨n, rfl, hn, q⟩ := h
    refine ⟨_, pss_one (ps_ret (pe_callTy call_tuple_of (by rfl) T.n_tuple (by decide +kernel) (pa_cons (pe_op op_cat (pe_listRg rfl (by rfl) T.n_list (prg_2 (by rfl) T.n_range (pv 0) (pe_op op_mul pe_int (pv 0)))) (pe_listRg rfl (by rfl) T.n_list (prg_1 (by rfl) T.n_range (pv 0)))) pa_nil))), ?_⟩
    refine ⟨_, rfl, _, rfl, 2, n, rfl, rfl, .inl ⟨by decide, by decide⟩, _, _, rfl, rfl, RgOk.of_le (by omega) (by omega) (by omega) (by omega), fun a na => ?_⟩
    have s1 : Same H _ := same_new (o := .lst (rgV (n : Int) (2 * (n : Int)))) na
    refine ⟨_, rfl, _, rfl, RgOk.of_le (by decide) (by omega) (by decide) (by omega), fun c nc => ?_⟩
    have s2 : Same (upd H a (.lst (rgV (n : Int) (2 * (n : Int))))) _ := same_new (o := .lst (rgV 0 (n : Int))) nc
    refine ⟨a, c, _, _, rfl, rfl, s2 _ _ upd_same, upd_same, ?_, fun d nd => ?_⟩
    · rw [rgV_length, rgV_length]
      exact Nat.le_of_lt (line_big (by omega))
    refine ⟨d, _, rfl, .inl ⟨.inl (.inl upd_same), fun t nt => ?_⟩⟩
    have s3 := (s1.trans s2).trans (same_new (o := .lst (rgV (n : Int) (2 * (n : Int)) ++ rgV 0 (n : Int))) nd)
    refine q _ t (s3.trans (same_new nt)) (s3.free nt) ?_
    rw [upd_same, range_shift, rg_nv, emp_two]
    unfold nv
    rw [List.map_append]
end
end Pc
namespace Pc
open PySem PySem.Spec PyProof.Rows L2 RZ
section
variable {P : Program} {w : World} {K : PySem.W.Frag} {mg : Str → Option Value} {base : Heap}
/-! ### sheets with words added -/
def spWithWord (K : PySem.W.Frag) : Sp := fun vs H Q _ => ∃ (a wd : Addr) (fs : List Nat) (us : List V) (qs : List (Nat × Nat)) (n : Nat), vs = [.ref a, .ref wd] ∧ Sq K H a (nv fs) ∧ IsPair (2 * n) fs ∧ Sq K H wd us ∧ Items K H us qs ∧ Calls n qs ∧ n ≤ 1000 ∧
  ∀ (H' : Hp) (t : Addr), Same H H' → H t = none → H' t = some (.tup (nv (shw n qs fs))) → Q (.ref t) H'
theorem ok_p_with_word (T : Env K mg) : FnOk P w K mg base CX0 4 T.f_p_with_word T.d_p_with_word ["sheet", "word"] (spWithWord K) := by
  have G0 : FnOk P w K mg base CX0 1 T.f_p_people_of T.d_p_people_of ["sheet"] (spPeople K) := ok_p_people_of T
  have G1 : FnOk P w K mg base CX0 3 T.f_p_check_word T.d_p_check_word ["size", "word"] (spCheckWord K) := ok_p_check_word T
  have G2 : FnOk P w K mg base CX0 1 T.f_p_join_two T.d_p_join_two ["joined", "a", "b"] spJoin := ok_p_join_two T
  refine T.F_p_with_word.ok sc_p_with_word (fun vs H Q E h => ?_) (fun cdv A outer s H vs Q E hr h => ?_)
  · obtain ⟨a, wd, fs, us, qs, n, rfl, _⟩ := h
    rfl
  · obtain ⟨a, wd, fs, us, qs, n, rfl, ha, hP, hw, hI, hc, hn, q⟩ := h
    have h1 := hr.mono (show 1 ≤ 3 by decide)
    refine ⟨_, pss_cons (ps_set (i := 2) sc_p_with_word.nd rfl (.inl rfl) (pe_call G0 h1 (by rfl) T.g_p_people_of T.F_p_people_of.kp T.b_p_people_of .nil pass0 (pa_cons (pv 0) pa_nil))) <|
      pss_cons (ps_expr (pe_call G1 hr (by rfl) T.g_p_check_word T.F_p_check_word.kp T.b_p_check_word .nil pass0 (pa_cons (pv 2) (pa_cons (pv 1) pa_nil)))) <|
      pss_cons (ps_set (i := 3) sc_p_with_word.nd rfl (.inl rfl) (pe_callTy call_list_of (by rfl) T.n_list (by decide +kernel) (pa_cons (pv 0) pa_nil))) <|
      pss_cons (ps_for PassesOwn.never rfl (pi_seq (pv 1)) (pg_seq (by rfl) (pgs_cons (pg_name (i := 4) sc_p_with_word.nd rfl (.inl rfl)) (pgs_cons (pg_name (i := 5) sc_p_with_word.nd rfl (.inl rfl)) pgs_nil)))
        (pss_one (ps_expr (pe_call G2 h1 (by rfl) T.g_p_join_two T.F_p_join_two.kp T.b_p_join_two .nil pass0 (pa_cons (pv 3) (pa_cons (pe_op op_add (pv 2) (pv 4)) (pa_cons (pe_op op_add (pv 2) (pv 5)) pa_nil))))))) <|
      pss_one (ps_ret (pe_callTy call_tuple_of (by rfl) T.n_tuple (by decide +kernel) (pa_cons (pv 3) pa_nil))), ?_⟩
    refine ⟨.ref a, rfl, a, fs, n, rfl, ha, hP.len, ?_⟩
    refine ⟨_, rfl, .ref wd, rfl, n, wd, us, qs, rfl, hw, hI, hc, ?_⟩
    refine ⟨.ref a, rfl, a, _, rfl, ha, fun l nl => ?_⟩
    have s0 : Same H (upd H l (.lst (nv fs))) := same_new nl
    refine ⟨.ref wd, rfl, wd, rfl, for_seq hw (fun i σ H' => Same H H' ∧ ∃ (y4 y5 : Option V), σ = [some (.ref a), some (.ref wd), some (.int n), some (.ref l), y4, y5] ∧ H' l = some (.lst (nv (shw n (qs.take i) fs)))) ⟨s0, none, none, rfl, upd_same⟩ (fun i σ H' h => h.1) (fun i x σ H' hx h => ?_) (fun σ H' h => ?_)⟩
    · obtain ⟨sm, y4, y5, rfl, el⟩ := h
      obtain ⟨c, r, rfl, hr', hq⟩ := hI.2 i x hx
      have hcr := hc r (List.mem_of_getElem? hr')
      refine ⟨c, _, rfl, hq.same sm, rfl, _, _, rfl, _, _, rfl, rfl, .ref l, rfl, _, rfl, _, rfl, _, _, rfl, rfl, _, rfl, _, rfl, _, _, rfl, rfl, l, _, 2 * n, n + r.1, n + r.2, ?_, el, shw_pair hP (hc.take i), by omega, by omega, fun H2 e2 k2 => ?_⟩
      · show [V.ref l, V.int ((n : Int) + (r.1 : Int)), V.int ((n : Int) + (r.2 : Int))] = _
        rw [show (n : Int) + (r.1 : Int) = ((n + r.1 : Nat) : Int) by omega, show (n : Int) + (r.2 : Int) = ((n + r.2 : Nat) : Int) by omega]
      · refine ⟨fun b o hb => k2 b o (ne_of_none hb nl) (sm _ _ hb), _, _, rfl, ?_⟩
        rw [shw_take hr']
        exact e2
    · obtain ⟨sm, y4, y5, rfl, el⟩ := h
      rw [hI.1, List.take_length] at el
      exact ⟨.ref l, rfl, l, _, rfl, .inl ⟨.inl (.inl el), fun t nt => q _ t (sm.trans (same_new nt)) (sm.free nt) upd_same⟩⟩
end
end Pc
namespace Pc
open PySem PySem.Spec PyProof.Rows L2 RZ
section
variable {P : Program} {w : World} {K : PySem.W.Frag} {mg : Str → Option Value} {base : Heap}
/-! ### sheets of words -/
def spPSheetOf (K : PySem.W.Frag) : Sp := fun vs H Q _ => ∃ (n : Nat) (wd : Addr) (us : List V) (qs : List (Nat × Nat)), vs = [.int n, .ref wd] ∧ Sq K H wd us ∧ Items K H us qs ∧ Calls n qs ∧ 0 < n ∧ n ≤ 1000 ∧
  ∀ (H' : Hp) (t : Addr), Same H H' → H t = none → H' t = some (.tup (nv (shw n qs (emp n)))) → Q (.ref t) H'
theorem ok_p_sheet_of (T : Env K mg) : FnOk P w K mg base CX0 5 T.f_p_sheet_of T.d_p_sheet_of ["size", "word"] (spPSheetOf K) := by
  have G0 : FnOk P w K mg base CX0 1 T.f_p_empty_sheet T.d_p_empty_sheet ["size"] spEmpty := ok_p_empty_sheet T
  have G1 : FnOk P w K mg base CX0 4 T.f_p_with_word T.d_p_with_word ["sheet", "word"] (spWithWord K) := ok_p_with_word T
  refine T.F_p_sheet_of.ok sc_p_sheet_of (fun vs H Q E h => ?_) (fun cdv A outer s H vs Q E hr h => ?_)
  · obtain ⟨n, wd, us, qs, rfl, _⟩ := h
    rfl
  · obtain ⟨n, wd, us, qs, rfl, hw, hI, hc, h0, hn, q⟩ := h
    refine ⟨_, pss_one (ps_ret (pe_call G1 hr (by rfl) T.g_p_with_word T.F_p_with_word.kp T.b_p_with_word .nil pass0 (pa_cons (pe_call G0 (hr.mono (by decide)) (by rfl) T.g_p_empty_sheet T.F_p_empty_sheet.kp T.b_p_empty_sheet .nil pass0 (pa_cons (pv 0) pa_nil)) (pa_cons (pv 1) pa_nil)))), ?_⟩
    refine ⟨_, rfl, n, rfl, hn, fun H1 t s1 nt et => ?_⟩
    refine ⟨.ref wd, rfl, t, wd, emp n, us, qs, n, rfl, .inr (.inl (.inl et)), emp_pair h0, hw.same s1, hI.same s1, hc, hn, fun H2 t2 s2 nt2 et2 => q H2 t2 (s1.trans s2) (s1.free nt2) et2⟩
end
end Pc
namespace Pc
open PySem PySem.Spec PyProof.Rows L2 RZ
section
variable {P : Program} {w : World} {K : PySem.W.Frag} {mg : Str → Option Value} {base : Heap}
/-! ### numbers of people that are equal -/
def spCheckSizes : Sp := fun vs H Q _ => ∃ n : Nat, vs = [.int n, .int n] ∧ Q .non H
theorem ok_p_check_sizes (T : Env K mg) : FnOk P w K mg base CX0 1 T.f_p_check_sizes T.d_p_check_sizes ["first", "second"] spCheckSizes := by
  refine T.F_p_check_sizes.ok sc_p_check_sizes (fun vs H Q E h => ?_) (fun cdv A outer s H vs Q E hr h => ?_)
  · obtain ⟨n, rfl, _⟩ := h
    rfl
  · obtain ⟨n, rfl, q⟩ := h
    refine ⟨_, pss_one (ps_if (pt_cmpR op_ne (pv 0) (pv 1) (nomark _)) pss_never pss_nil), ?_⟩
    refine ⟨_, rfl, _, rfl, rfl, _, rfl, ite2 (fun c => ?_) (fun _ => q)⟩
    rw [decide_eq_true rfl] at c
    exact absurd c (by decide)
end
end Pc
namespace Pc
open PySem PySem.Spec PyProof.Rows L2 RZ
theorem last_nv (l : List Nat) (z : Nat) : atI (nv (l ++ [z])) (-1) = some (.int (z : Int)) := by
  unfold nv
  rw [List.map_append]
  exact atI_last _ _
theorem last_nv' (l : List Nat) (y z : Nat) : atI (nv (l ++ [y, z])) (-1) = some (.int (z : Int)) := by
  rw [show l ++ [y, z] = (l ++ [y]) ++ [z] by rw [List.append_assoc]; rfl]
  exact last_nv _ _
theorem last_trl {l : List Nat} (h : 2 ≤ l.length) : atI (nv l) (-1) = some (.int ((l.getLastD 0 : Nat) : Int)) := by
  have hne : l ≠ [] := fun e => by rw [e] at h; exact absurd h (by decide)
  have e : l = l.dropLast ++ [l.getLastD 0] := by
    have h1 := List.dropLast_concat_getLast hne
    have h2 := last_get (l := l) (by omega)
    rw [← List.getLast?_eq_getElem?, List.getLast?_eq_some_getLast hne] at h2
    rw [← Option.some.inj h2]; exact h1.symm
  rw [e, show (l.dropLast ++ [l.getLastD 0]).getLastD 0 = l.getLastD 0 by rw [← e]]
  exact last_nv _ _
section
variable {P : Program} {w : World} {K : PySem.W.Frag} {mg : Str → Option Value} {base : Heap}
/-! ### reading -/
/-- the way of a person -/
def spFPath (K : PySem.W.Frag) : Sp := fun vs H Q _ => ∃ (a p : Addr) (fs ps : List Nat) (n x : Nat), vs = [.ref a, .ref p, .int x] ∧ Sq K H a (nv fs) ∧ Sq K H p (nv ps) ∧ IsPair (2 * n) fs ∧ IsPair n ps ∧ x < n ∧ n ≤ 500 ∧
  ∀ (H' : Hp) (t : Addr), Same H H' → H t = none → H' t = some (.lst (nv (trl fs ps n (n + x)))) → Q (.ref t) H'
theorem ok_p_followed_path (T : Env K mg) : FnOk P w K mg base CX0 2 T.f_p_followed_path T.d_p_followed_path ["sheet", "pairing", "person"] (spFPath K) := by
  have G0 : FnOk P w K mg base CX0 1 T.f_p_people_of T.d_p_people_of ["sheet"] (spPeople K) := ok_p_people_of T
  refine T.F_p_followed_path.ok sc_p_followed_path (fun vs H Q E h => ?_) (fun cdv A outer s H vs Q E hr h => ?_)
  · obtain ⟨a, p, fs, ps, n, x, rfl, _⟩ := h
    rfl
  · obtain ⟨a, p, fs, ps, n, x, rfl, ha, hp, hF, hP, hx, hn, q⟩ := h
    refine ⟨_, pss_cons (ps_set (i := 3) sc_p_followed_path.nd rfl (.inl rfl) (pe_call G0 hr (by rfl) T.g_p_people_of T.F_p_people_of.kp T.b_p_people_of .nil pass0 (pa_cons (pv 0) pa_nil))) <|
      pss_cons (ps_set (i := 4) sc_p_followed_path.nd rfl (.inl rfl) (pe_lst (pa_cons (pe_op op_add (pv 3) (pv 2)) (pa_cons (pe_ix ix_seq (pv 0) (pe_op op_add (pv 3) (pv 2)) (fun _ _ => rfl)) pa_nil)))) <|
      pss_cons (ps_while PassesOwn.never (pt_cmpR op_lt (pe_ix ix_list (pv 4) (pe_un un_neg pe_int) (fun _ _ => rfl)) (pv 3) (nomark _))
        (pss_cons (ps_set (i := 5) sc_p_followed_path.nd rfl (.inl rfl) (pe_ix ix_seq (pv 1) (pe_ix ix_list (pv 4) (pe_un un_neg pe_int) (fun _ _ => rfl)) (fun _ _ => rfl))) <|
        pss_cons (ps_expr (pe_bm PySem.F.plainAttrs_list PySem.F.slot_list_append PySem.F.type_list_append mt_append (pv 4) (pa_cons (pv 5) pa_nil))) <|
        pss_one (ps_expr (pe_bm PySem.F.plainAttrs_list PySem.F.slot_list_append PySem.F.type_list_append mt_append (pv 4) (pa_cons (pe_ix ix_seq (pv 0) (pv 5) (fun _ _ => rfl)) pa_nil))))) <|
      pss_one (ps_ret (pv 4)), ?_⟩
    have hl := hF.len
    have c1 : (n : Int) + (x : Int) = ((n + x : Nat) : Int) := by omega
    obtain ⟨d1, _, _, d4⟩ := hF.d (x := n + x) (by omega)
    have a1 : atI (nv fs) ((n : Int) + (x : Int)) = some (.int ((fs.getD (n + x) 0 : Nat) : Int)) := by rw [c1]; exact nv_at d4
    obtain ⟨ht, htl⟩ := trl_trail hF hP (z := n + x) (by omega) (by omega)
    refine ⟨.ref a, rfl, a, fs, n, rfl, ha, hl, ?_⟩
    refine ⟨_, rfl, _, rfl, _, _, rfl, rfl, .ref a, rfl, _, rfl, _, rfl, _, _, rfl, rfl, ix_sq ha a1 ⟨by show 2 ≤ sizeLine; decide, fun e ne => ?_⟩⟩
    have e0 : (upd H e (.lst [.int ((n : Int) + (x : Int)), .int ((fs.getD (n + x) 0 : Nat) : Int)])) e = some (.lst (nv ([] ++ [n + x, fs.getD (n + x) 0]))) := by
      rw [upd_same, c1]; rfl
    refine ⟨fun m σ H' => ∃ (y : Option V) (dn rest : List Nat) (z : Nat), σ = [some (.ref a), some (.ref p), some (.int x), some (.int n), some (.ref e), y] ∧ Same H H' ∧ H' e = some (.lst (nv (dn ++ [z, fs.getD z 0]))) ∧ Trail fs ps n z rest ∧ dn ++ rest = trl fs ps n (n + x) ∧ z < 2 * n ∧ rest.length = m,
      ⟨_, none, [], _, n + x, rfl, same_new ne, e0, ht, rfl, by omega, rfl⟩, fun m σ H' hW => ?_⟩
    obtain ⟨y, dn, rest, z, rfl, sm, ee, tz, et, hz, hm⟩ := hW
    have hlen : dn.length + rest.length ≤ 2 * n + 2 := by
      have := congrArg List.length et
      rw [List.length_append] at this
      omega
    have hr2 := tz.len.1
    refine ⟨.ref e, rfl, 1, rfl, e, _, -1, _, rfl, rfl, .inl (.inl ee), last_nv' _ _ _, _, rfl, _, _, rfl, rfl, _, rfl, ite2 (fun c => ?_) (fun c => ?_)⟩
    · have hc : fs.getD z 0 < n := by have := of_decide_eq_true c; omega
      cases tz with
      | stop h => omega
      | @go _ l _ tz' =>
      obtain ⟨p1, _, _, p4⟩ := hP.d hc
      obtain ⟨f1, _, _, f4⟩ := hF.d (x := ps.getD (fs.getD z 0) 0) (by omega)
      refine ⟨fun σ' H2 => ∃ (y : Option V) (dn rest : List Nat) (z : Nat), σ' = [some (.ref a), some (.ref p), some (.int x), some (.int n), some (.ref e), y] ∧ Same H H2 ∧ H2 e = some (.lst (nv (dn ++ [z, fs.getD z 0]))) ∧ Trail fs ps n z rest ∧ dn ++ rest = trl fs ps n (n + x) ∧ z < 2 * n ∧ rest.length < m,
        fun σ' H2 h2 => ?_, ?_⟩
      · obtain ⟨y', dn', rest', z', g1, g2, g3, g4, g5, g6, g7⟩ := h2
        exact ⟨_, g7, y', dn', rest', z', g1, g2, g3, g4, g5, g6, rfl⟩
      · refine ⟨.ref p, rfl, .ref e, rfl, 1, rfl, e, _, -1, _, rfl, rfl, .inl (.inl ee), last_nv' _ _ _, ix_sq (hp.same sm) (nv_at p4) ?_⟩
        have ls : ∀ {k : Nat} {l : List Nat}, l.length = dn.length + k → k ≤ 4 → (nv l).length < sizeLine := fun {k l} h1 h2 => line_big (by rw [nv_length, h1]; omega)
        refine ⟨.ref e, rfl, .inl ⟨rfl, _, .inl (.inl ee)⟩, _, rfl, e, _, _, rfl, rfl, ee, ls (k := 2) (by rw [List.length_append]; rfl) (by omega), ?_⟩
        have e1 : (upd H' e (.lst (nv (dn ++ [z, fs.getD z 0]) ++ [.int ((ps.getD (fs.getD z 0) 0 : Nat) : Int)]))) e = some (.lst (nv (dn ++ [z, fs.getD z 0] ++ [ps.getD (fs.getD z 0) 0]))) := by rw [upd_same, nv_snoc']
        have s1 : Same H (upd H' e (.lst (nv (dn ++ [z, fs.getD z 0]) ++ [.int ((ps.getD (fs.getD z 0) 0 : Nat) : Int)]))) := fun b o hb => by rw [upd_ne (ne_of_none hb ne)]; exact sm _ _ hb
        revert e1 s1
        generalize upd H' e (.lst (nv (dn ++ [z, fs.getD z 0]) ++ [.int ((ps.getD (fs.getD z 0) 0 : Nat) : Int)])) = H1
        intro e1 s1
        refine ⟨.ref e, rfl, .inl ⟨rfl, _, .inl (.inl e1)⟩, .ref a, rfl, _, rfl, ix_sq (ha.same s1) (nv_at f4) ⟨e, _, _, rfl, rfl, e1, ls (k := 3) (by rw [List.length_append, List.length_append]; rfl) (by omega), ?_⟩⟩
        refine ⟨_, dn ++ [z, fs.getD z 0], l, ps.getD (fs.getD z 0) 0, rfl, fun b o hb => ?_, ?_, tz', ?_, by omega, by rw [← hm]; simp only [List.length_cons]; omega⟩
        · rw [upd_ne (ne_of_none hb ne)]; exact s1 _ _ hb
        · rw [upd_same, nv_snoc', List.append_assoc (dn ++ [z, fs.getD z 0])]; rfl
        · rw [← et, List.append_assoc]; rfl
    · cases tz with
      | go h _ => exact absurd (decide_eq_true (show ((fs.getD z 0 : Nat) : Int) < (n : Int) by omega)) c
      | stop h =>
        rw [et] at ee
        exact ⟨.ref e, rfl, q H' e sm ne ee⟩
/-- result -/
def spResult (K : PySem.W.Frag) : Sp := fun vs H Q _ => ∃ (a p : Addr) (fs ps : List Nat) (n : Nat), vs = [.ref a, .ref p] ∧ Sq K H a (nv fs) ∧ Sq K H p (nv ps) ∧ IsPair (2 * n) fs ∧ IsPair n ps ∧ n ≤ 500 ∧
  ∀ (H' : Hp) (t : Addr), Same H H' → H t = none → H' t = some (.tup (nv (rd fs ps n))) → Q (.ref t) H'
theorem rd_step (fs ps : List Nat) {n i : Nat} (h : i < n) : (rd fs ps n).take (i + 1) = (rd fs ps n).take i ++ [far fs ps n (n + i) - n] := by
  rw [List.take_add_one, rd_get fs ps h]; rfl
theorem ok_p_result (T : Env K mg) : FnOk P w K mg base CX0 3 T.f_p_result T.d_p_result ["sheet", "pairing"] (spResult K) := by
  have G0 : FnOk P w K mg base CX0 1 T.f_p_people_of T.d_p_people_of ["sheet"] (spPeople K) := ok_p_people_of T
  have G1 : FnOk P w K mg base CX0 1 T.f_p_check_sizes T.d_p_check_sizes ["first", "second"] spCheckSizes := ok_p_check_sizes T
  have G2 : FnOk P w K mg base CX0 2 T.f_p_followed_path T.d_p_followed_path ["sheet", "pairing", "person"] (spFPath K) := ok_p_followed_path T
  refine T.F_p_result.ok sc_p_result (fun vs H Q E h => ?_) (fun cdv A outer s H vs Q E hr h => ?_)
  · obtain ⟨a, p, fs, ps, n, rfl, _⟩ := h
    rfl
  · obtain ⟨a, p, fs, ps, n, rfl, ha, hp, hF, hP, hn, q⟩ := h
    have h1 := hr.mono (show 1 ≤ 2 by decide)
    refine ⟨_, pss_cons (ps_set (i := 2) sc_p_result.nd rfl (.inr rfl) (pe_call G0 h1 (by rfl) T.g_p_people_of T.F_p_people_of.kp T.b_p_people_of .nil pass0 (pa_cons (pv 0) pa_nil))) <|
      pss_cons (ps_expr (pe_call G1 h1 (by rfl) T.g_p_check_sizes T.F_p_check_sizes.kp T.b_p_check_sizes .nil pass0 (pa_cons (pv 2) (pa_cons (pe_callB call_len_seq (by rfl) T.n_len PySem.boot_len (pa_cons (pv 1) pa_nil)) pa_nil)))) <|
      pss_one (ps_ret (pe_callTy call_tuple_of (by rfl) T.n_tuple (by decide +kernel) (pa_cons
        (pe_lc (own := [("person", 3)]) (g := gName 3) (tt := tYes) (te := tOp (rI0 fun i j => .int (i - j)) (tOp (rIxL K) (tCall (spFPath K) [] (fun _ _ _ => False) (tCons (tVar 0) (tCons (tVar 1) (tCons (tVar 3) tNil)))) (tUn (rU fun i => .int (-i)) (tC (.int 1)))) (tVar 2)) rfl sc_p_result.nd
          (pi_range1 (by rfl) T.n_range (pa_cons (pv 2) pa_nil)) (blkOk_by (N := N_p_result) (sc := defScope s_p_result) (by decide +kernel)) (fun _ _ _ _ _ => pg_name (i := 3) sc_p_result.nd rfl (.inl rfl)) (fun _ _ _ _ _ => pts_nil)
          (fun _ _ _ _ _ => pe_op op_sub (pe_ix ix_list (pe_call G2 hr (by rfl) T.g_p_followed_path T.F_p_followed_path.kp T.b_p_followed_path .nil pass0 (pa_cons (pv 0) (pa_cons (pv 1) (pa_cons (pv 3) pa_nil)))) (pe_un un_neg pe_int) (fun _ _ => rfl)) (pv 2))) pa_nil))), ?_⟩
    have hl := hF.len
    have hlp : ((nv ps).length : Int) = (n : Nat) := by rw [nv_length, hP.len]
    refine ⟨.ref a, rfl, a, fs, n, rfl, ha, hl, ?_⟩
    refine ⟨_, rfl, .ref p, rfl, p, _, rfl, hp, n, ?_, ?_⟩
    · show [V.int (n : Int), V.int ((nv ps).length : Int)] = _
      rw [hlp]
    refine ⟨_, rfl, _, rfl, by omega, by omega, fun D nD => ?_⟩
    rw [show ((n : Int)).toNat = n by omega]
    refine lc_range (n := n) (fun i H' => Same H H' ∧ H' D = some (.lst (nv ((rd fs ps n).take i)))) ⟨same_new nD, upd_same⟩ (fun i H1 hi hPv => ?_) (fun H1 hPv => ?_)
    · obtain ⟨sm, eD⟩ := hPv
      refine ⟨rfl, yes_if ⟨.ref a, rfl, .ref p, rfl, _, rfl, a, p, fs, ps, n, i, ?_, ha.same sm, hp.same sm, hF, hP, hi, hn, fun H2 t s2 nt et => ?_⟩⟩
      · show [V.ref a, V.ref p, V.int ((0 : Int) + (i : Nat))] = _
        rw [Int.zero_add]
      obtain ⟨tt, _⟩ := trl_trail hF hP (z := n + i) (by omega) (by omega)
      have hf := far_d hF hP (z := n + i) (by omega) (by omega)
      refine ⟨1, rfl, t, _, -1, _, rfl, rfl, .inl (.inl et), last_trl tt.len.1, _, rfl, _, _, rfl, rfl, _, s2 _ _ eD, line_big (by rw [nv_length, List.length_take, rd_len]; omega), fun b o hb => ?_, ?_⟩
      · rw [upd_ne (ne_of_none hb nD)]; exact s2 _ _ (sm _ _ hb)
      · rw [upd_same, rd_step fs ps hi, ← nv_snoc']
        show some (HO.lst (nv ((rd fs ps n).take i) ++ [V.int (((far fs ps n (n + i) : Nat) : Int) - (n : Int))])) = _
        rw [show ((far fs ps n (n + i) : Nat) : Int) - (n : Int) = ((far fs ps n (n + i) - n : Nat) : Int) by omega]
    · obtain ⟨s1, eD⟩ := hPv
      rw [List.take_of_length_le (Nat.le_of_eq (rd_len fs ps n))] at eD
      exact ⟨D, _, rfl, .inl ⟨.inl (.inl eD), fun t nt => q _ t (s1.trans (same_new nt)) (s1.free nt) upd_same⟩⟩
end
end Pc
namespace Pc
/-! ### classes: how many there are, and what one more join does -/
inductive Cn (E : Nat → Nat → Prop) : Nat → Nat → Prop
  | refl (x : Nat) : Cn E x x
  | step {x y z : Nat} : Cn E x y → E y z ∨ E z y → Cn E x z
theorem Cn.trans {E : Nat → Nat → Prop} {x y z : Nat} (h : Cn E x y) (g : Cn E y z) : Cn E x z := by
  induction g with
  | refl => exact h
  | step _ e ih => exact .step ih e
theorem Cn.one {E : Nat → Nat → Prop} {x y : Nat} (h : E x y ∨ E y x) : Cn E x y := .step (.refl x) h
theorem Cn.symm {E : Nat → Nat → Prop} {x y : Nat} (h : Cn E x y) : Cn E y x := by
  induction h with
  | refl => exact .refl _
  | step _ e ih => exact (Cn.one e.symm).trans ih
theorem Cn.mono {E F : Nat → Nat → Prop} (h : ∀ x y, E x y → Cn F x y) {x y : Nat} (g : Cn E x y) : Cn F x y := by
  induction g with
  | refl => exact .refl _
  | step _ e ih => exact ih.trans (e.elim (fun z => h _ _ z) (fun z => (h _ _ z).symm))
/-- the joins with one more -/
def Ad (p q : Nat) (E : Nat → Nat → Prop) : Nat → Nat → Prop := fun x y => E x y ∨ (x = p ∧ y = q)
theorem Cn.up {E : Nat → Nat → Prop} {p q x y : Nat} (h : Cn E x y) : Cn (Ad p q E) x y := h.mono fun _ _ e => .one (.inl (.inl e))
theorem cn_ad {E : Nat → Nat → Prop} {p q x y : Nat} (h : Cn (Ad p q E) x y) : Cn E x y ∨ (Cn E x p ∧ Cn E q y) ∨ (Cn E x q ∧ Cn E p y) := by
  induction h with
  | refl => exact .inl (.refl _)
  | step _ e ih =>
    have go : ∀ {u v : Nat}, (Cn E x u ∨ (Cn E x p ∧ Cn E q u) ∨ (Cn E x q ∧ Cn E p u)) → E u v ∨ E v u → Cn E x v ∨ (Cn E x p ∧ Cn E q v) ∨ (Cn E x q ∧ Cn E p v) := fun {u v} h e => by
      rcases h with h | ⟨h1, h2⟩ | ⟨h1, h2⟩
      · exact .inl (.step h e)
      · exact .inr (.inl ⟨h1, .step h2 e⟩)
      · exact .inr (.inr ⟨h1, .step h2 e⟩)
    rcases e with (e | ⟨rfl, rfl⟩) | (e | ⟨rfl, rfl⟩)
    · exact go ih (.inl e)
    · rcases ih with h | ⟨h1, h2⟩ | ⟨h1, h2⟩
      · exact .inr (.inl ⟨h, .refl _⟩)
      · exact .inr (.inl ⟨h1, .refl _⟩)
      · exact .inl h1
    · exact go ih (.inr e)
    · rcases ih with h | ⟨h1, h2⟩ | ⟨h1, h2⟩
      · exact .inr (.inr ⟨h, .refl _⟩)
      · exact .inl h1
      · exact .inr (.inr ⟨h1, .refl _⟩)
/-- the least of its class -/
def Lst1 (E : Nat → Nat → Prop) (x : Nat) : Prop := ∀ y, y < x → ¬ Cn E y x
open Classical in
noncomputable def nc (n : Nat) (E : Nat → Nat → Prop) : Nat := ((List.range n).filter fun x => decide (Lst1 E x)).length
open Classical in
theorem nc_congr {n : Nat} {E F : Nat → Nat → Prop} (h : ∀ x y, Cn E x y ↔ Cn F x y) : nc n E = nc n F := by
  unfold nc
  congr 2
  funext x
  exact decide_eq_decide.mpr ⟨fun g y hy c => g y hy ((h y x).mpr c), fun g y hy c => g y hy ((h y x).mp c)⟩
theorem flt_len_le {p q : Nat → Bool} : ∀ (l : List Nat), (∀ x ∈ l, q x = true → p x = true) → (l.filter q).length ≤ (l.filter p).length
  | [], _ => Nat.le_refl _
  | x :: l, h => by
    have ih := flt_len_le (p := p) (q := q) l (fun y hy => h y (List.mem_cons_of_mem _ hy))
    by_cases c : q x = true
    · rw [List.filter_cons_of_pos c, List.filter_cons_of_pos (h x List.mem_cons_self c), List.length_cons, List.length_cons]; omega
    · rw [List.filter_cons_of_neg c]
      by_cases d : p x = true
      · rw [List.filter_cons_of_pos d, List.length_cons]; omega
      · rw [List.filter_cons_of_neg d]; exact ih
theorem flt_len_one {p q : Nat → Bool} : ∀ (l : List Nat), l.Nodup → (∀ x ∈ l, ∀ y ∈ l, p x = true → ¬ q x = true → p y = true → ¬ q y = true → x = y) → (l.filter p).length ≤ (l.filter q).length + 1
  | [], _, _ => Nat.zero_le _
  | x :: l, hd, h => by
    have hd' := List.nodup_cons.mp hd
    have ih := flt_len_one (p := p) (q := q) l hd'.2 (fun y hy z hz => h y (List.mem_cons_of_mem _ hy) z (List.mem_cons_of_mem _ hz))
    by_cases c : p x = true
    · by_cases d : q x = true
      · rw [List.filter_cons_of_pos c, List.filter_cons_of_pos d, List.length_cons, List.length_cons]; omega
      · have h2 := flt_len_le (p := q) (q := p) l (fun y hy py => by
          by_cases qy : q y = true
          · exact qy
          · have e := h x List.mem_cons_self y (List.mem_cons_of_mem _ hy) c d py qy
            rw [← e] at hy; exact absurd hy hd'.1)
        rw [List.filter_cons_of_pos c, List.filter_cons_of_neg d, List.length_cons]; omega
    · rw [List.filter_cons_of_neg c]
      by_cases d : q x = true
      · rw [List.filter_cons_of_pos d, List.length_cons]; omega
      · rw [List.filter_cons_of_neg d]; exact ih
theorem flt_len_lt {p q : Nat → Bool} : ∀ (l : List Nat), (∀ x ∈ l, q x = true → p x = true) → (∃ x ∈ l, p x = true ∧ ¬ q x = true) → (l.filter q).length < (l.filter p).length
  | [], _, h => by obtain ⟨x, hx, _⟩ := h; exact absurd hx List.not_mem_nil
  | x :: l, h, g => by
    have h' : ∀ y ∈ l, q y = true → p y = true := fun y hy => h y (List.mem_cons_of_mem _ hy)
    have h1 := flt_len_le (p := p) (q := q) l h'
    by_cases c : q x = true
    · obtain ⟨y, hy, py, qy⟩ := g
      have ih := flt_len_lt (p := p) (q := q) l h' ⟨y, (List.mem_cons.mp hy).resolve_left (fun e => qy (by rw [e]; exact c)), py, qy⟩
      rw [List.filter_cons_of_pos c, List.filter_cons_of_pos (h x List.mem_cons_self c), List.length_cons, List.length_cons]; omega
    · rw [List.filter_cons_of_neg c]
      by_cases d : p x = true
      · rw [List.filter_cons_of_pos d, List.length_cons]; omega
      · obtain ⟨y, hy, py, qy⟩ := g
        rw [List.filter_cons_of_neg d]
        exact flt_len_lt (p := p) (q := q) l h' ⟨y, (List.mem_cons.mp hy).resolve_left (fun e => d (by rw [← e]; exact py)), py, qy⟩
theorem lst_of_ad {E : Nat → Nat → Prop} {p q x : Nat} (h : Lst1 (Ad p q E) x) : Lst1 E x := fun y hy c => h y hy c.up
open Classical in
theorem nc_ad_le {n : Nat} {E : Nat → Nat → Prop} {p q : Nat} : nc n (Ad p q E) ≤ nc n E := flt_len_le _ fun _ _ h => decide_eq_true (lst_of_ad (of_decide_eq_true h))
theorem lst_uniq {E : Nat → Nat → Prop} {x y : Nat} (hx : Lst1 E x) (hy : Lst1 E y) (h : Cn E x y) : x = y := by
  rcases Nat.lt_trichotomy x y with c | c | c
  · exact absurd h (hy x c)
  · exact c
  · exact absurd h.symm (hx y c)
/-- who is the least no more -/
theorem lost {E : Nat → Nat → Prop} {p q x : Nat} (hx : Lst1 E x) (hn : ¬ Lst1 (Ad p q E) x) : (Cn E x q ∧ ∃ y, y < x ∧ Cn E y p) ∨ (Cn E x p ∧ ∃ y, y < x ∧ Cn E y q) := by
  obtain ⟨y, hy, c⟩ : ∃ y, y < x ∧ Cn (Ad p q E) y x := by
    rcases Classical.em (∃ y, y < x ∧ Cn (Ad p q E) y x) with h | h
    · exact h
    · exact absurd (fun y hy c => h ⟨y, hy, c⟩) hn
  rcases cn_ad c with h | ⟨h1, h2⟩ | ⟨h1, h2⟩
  · exact absurd h (hx y hy)
  · exact .inl ⟨h2.symm, y, hy, h1⟩
  · exact .inr ⟨h2.symm, y, hy, h1⟩
open Classical in
theorem nc_le_ad {n : Nat} {E : Nat → Nat → Prop} {p q : Nat} : nc n E ≤ nc n (Ad p q E) + 1 := by
  refine flt_len_one _ List.nodup_range fun x _ y _ hx' nx' hy' ny' => ?_
  have hx := of_decide_eq_true hx'
  have hy := of_decide_eq_true hy'
  have nx : ¬ Lst1 (Ad p q E) x := fun z => nx' (decide_eq_true z)
  have ny : ¬ Lst1 (Ad p q E) y := fun z => ny' (decide_eq_true z)
  rcases lost hx nx with ⟨h1, z, hz, h2⟩ | ⟨h1, z, hz, h2⟩ <;> rcases lost hy ny with ⟨g1, w, hw, g2⟩ | ⟨g1, w, hw, g2⟩
  · exact lst_uniq hx hy (h1.trans g1.symm)
  · -- x is the least of q's class, y of p's
    have a1 : ¬ z < y := fun c => hy z c (h2.trans g1.symm)
    have a2 : ¬ w < x := fun c => hx w c (g2.trans h1.symm)
    omega
  · have a1 : ¬ z < y := fun c => hy z c (h2.trans g1.symm)
    have a2 : ¬ w < x := fun c => hx w c (g2.trans h1.symm)
    omega
  · exact lst_uniq hx hy (h1.trans g1.symm)
theorem nc_ad_eq {n : Nat} {E : Nat → Nat → Prop} {p q : Nat} (h : Cn E p q) : nc n (Ad p q E) = nc n E :=
  nc_congr fun x y => ⟨fun c => by
    rcases cn_ad c with c | ⟨h1, h2⟩ | ⟨h1, h2⟩
    · exact c
    · exact (h1.trans h).trans h2
    · exact (h1.trans h.symm).trans h2, fun c => c.up⟩
open Classical in
theorem least_of {E : Nat → Nat → Prop} : ∀ (p : Nat), ∃ x, x ≤ p ∧ Cn E x p ∧ Lst1 E x
  | p => by
    by_cases h : Lst1 E p
    · exact ⟨p, Nat.le_refl _, .refl _, h⟩
    · obtain ⟨y, hy, c⟩ : ∃ y, y < p ∧ Cn E y p := by
        rcases Classical.em (∃ y, y < p ∧ Cn E y p) with g | g
        · exact g
        · exact absurd (fun y hy c => g ⟨y, hy, c⟩) h
      obtain ⟨x, h1, h2, h3⟩ := least_of (E := E) y
      exact ⟨x, by omega, h2.trans c, h3⟩
open Classical in
theorem nc_ad_lt {n : Nat} {E : Nat → Nat → Prop} {p q : Nat} (hp : p < n) (hq : q < n) (h : ¬ Cn E p q) : nc n (Ad p q E) + 1 = nc n E := by
  have h1 := nc_le_ad (n := n) (E := E) (p := p) (q := q)
  have h2 : nc n (Ad p q E) < nc n E := by
    refine flt_len_lt _ (fun _ _ h => decide_eq_true (lst_of_ad (of_decide_eq_true h))) ?_
    obtain ⟨x, x1, x2, x3⟩ := least_of (E := E) p
    obtain ⟨y, y1, y2, y3⟩ := least_of (E := E) q
    have e : Cn (Ad p q E) p q := .one (.inl (.inr ⟨rfl, rfl⟩))
    rcases Nat.lt_trichotomy x y with c | c | c
    · exact ⟨y, List.mem_range.mpr (by omega), decide_eq_true y3, fun g => of_decide_eq_true g x c ((x2.up.trans e).trans y2.up.symm)⟩
    · rw [c] at x2; exact absurd (x2.symm.trans y2) h
    · exact ⟨x, List.mem_range.mpr (by omega), decide_eq_true x3, fun g => of_decide_eq_true g y c ((y2.up.trans e.symm).trans x2.up.symm)⟩
  omega
/-- an involution without a fixed point: an even number -/
theorem even_inv {f : Nat → Nat} : ∀ (k : Nat) (l : List Nat), l.length = k → l.Nodup → (∀ z ∈ l, f z ∈ l ∧ f z ≠ z ∧ f (f z) = z) → k % 2 = 0
  | 0, _, _, _, _ => rfl
  | 1, l, hl, hd, h => by
    obtain ⟨x, rfl⟩ := List.length_eq_one_iff.mp hl
    have := h x List.mem_cons_self
    exact absurd (List.mem_singleton.mp this.1) this.2.1
  | k + 2, l, hl, hd, h => by
    obtain ⟨x, r, rfl⟩ : ∃ x r, l = x :: r := by
      cases l with
      | nil => cases hl
      | cons x r => exact ⟨x, r, rfl⟩
    obtain ⟨x1, x2, x3⟩ := h x List.mem_cons_self
    have hd' := List.nodup_cons.mp hd
    have xr : f x ∈ r := (List.mem_cons.mp x1).resolve_left x2
    have ih := even_inv (f := f) k (r.erase (f x)) (by rw [List.length_erase_of_mem xr]; rw [List.length_cons] at hl; omega) (hd'.2.erase _) (fun z hz => by
      obtain ⟨z1, z2⟩ := (hd'.2.mem_erase_iff).mp hz
      obtain ⟨y1, y2, y3⟩ := h z (List.mem_cons_of_mem _ z2)
      refine ⟨(hd'.2.mem_erase_iff).mpr ⟨fun e => ?_, (List.mem_cons.mp y1).resolve_left (fun e => ?_)⟩, y2, y3⟩
      · have : z = x := by rw [← y3, e, x3]
        exact hd'.1 (by rw [← this]; exact z2)
      · exact z1 (by rw [← y3, e]))
    omega
end Pc
namespace Pc
/-! ### a sheet again and again: what stays -/
theorem folU {f g : List Nat} {n x : Nat} (hx : x < n) (h : f.getD x 0 < n) : (fol f g n).getD x 0 = f.getD x 0 := by
  have w : Ends (cstep f g n n) (cst n n x) (f.getD x 0) := by unfold cst; rw [if_pos hx]; exact .stop (cs_tl h)
  show (cmp f g n n n).getD x 0 = _
  rw [cmp_d _ _ (by omega), cfar_is w]
theorem folL {f g : List Nat} {n x : Nat} (hx : x < n) (h : n ≤ g.getD (n + x) 0) : (fol f g n).getD (n + x) 0 = g.getD (n + x) 0 := by
  have w : Ends (cstep f g n n) (cst n n (n + x)) (n + (g.getD (n + x) 0 - n)) := by unfold cst; rw [if_neg (by omega), show n + (n + x - n) = n + x by omega]; exact .stop (cs_fg h)
  show (cmp f g n n n).getD (n + x) 0 = _
  rw [cmp_d _ _ (by omega), cfar_is w]; omega
/-- the same lower pairs -/
def SLo (n : Nat) (a b : List Nat) : Prop := ∀ x, x < n → (n ≤ a.getD (n + x) 0 ∨ n ≤ b.getD (n + x) 0) → a.getD (n + x) 0 = b.getD (n + x) 0
theorem SLo.refl {n : Nat} {a : List Nat} : SLo n a a := fun _ _ _ => rfl
theorem SLo.symm {n : Nat} {a b : List Nat} (h : SLo n a b) : SLo n b a := fun x hx c => (h x hx c.symm).symm
theorem SLo.trans {n : Nat} {a b c : List Nat} (h : SLo n a b) (g : SLo n b c) : SLo n a c := fun x hx k => by
  rcases k with k | k
  · have e := h x hx (.inl k)
    rw [e, g x hx (.inl (by rw [← e]; exact k))]
  · have e := g x hx (.inr k)
    rw [h x hx (.inr (by rw [e]; exact k)), e]
theorem slo_ends {a b g : List Nat} {n : Nat} (h : SLo n a b) {s : Bool × Nat} {y : Nat} (w : Ends (cstep a g n n) s y) : (s.1 = true → n ≤ s.2 ∧ s.2 < 2 * n) →
    (n ≤ y → Ends (cstep b g n n) s y) ∧ (y < n → ∃ y', y' < n ∧ Ends (cstep b g n n) s y') := by
  induction w with
  | @stop s y e =>
    intro hs
    obtain ⟨t, z⟩ := s
    cases t with
    | false =>
      by_cases c : g.getD z 0 < n
      · rw [cs_fl c] at e; cases e
      · rw [cs_fg (by omega)] at e
        have ey := Sum.inr.inj e
        exact ⟨fun _ => .stop (by rw [cs_fg (by omega), ey]), fun hy => by omega⟩
    | true =>
      obtain ⟨h1, h2⟩ := hs rfl
      replace h1 : n ≤ z := h1
      replace h2 : z < 2 * n := h2
      by_cases c : a.getD z 0 < n
      · rw [cs_tl c] at e
        have ey := Sum.inr.inj e
        have c' : b.getD z 0 < n := by
          by_cases c' : b.getD z 0 < n
          · exact c'
          · have := h (z - n) (by omega) (.inr (by rw [show n + (z - n) = z by omega]; omega))
            rw [show n + (z - n) = z by omega] at this; omega
        exact ⟨fun hy => by omega, fun _ => ⟨_, c', .stop (cs_tl c')⟩⟩
      · rw [cs_tg (by omega)] at e; cases e
  | @go s t y e _ ih =>
    intro hs
    obtain ⟨u, z⟩ := s
    cases u with
    | false =>
      by_cases c : g.getD z 0 < n
      · rw [cs_fl c] at e
        have et := Sum.inl.inj e
        subst et
        obtain ⟨i1, i2⟩ := ih fun _ => ⟨by show n ≤ n + _; omega, by show n + _ < 2 * n; omega⟩
        exact ⟨fun hy => .go (cs_fl c) (i1 hy), fun hy => by obtain ⟨y', h1, h2⟩ := i2 hy; exact ⟨y', h1, .go (cs_fl c) h2⟩⟩
      · rw [cs_fg (by omega)] at e; cases e
    | true =>
      obtain ⟨h1, h2⟩ := hs rfl
      replace h1 : n ≤ z := h1
      replace h2 : z < 2 * n := h2
      by_cases c : a.getD z 0 < n
      · rw [cs_tl c] at e; cases e
      · rw [cs_tg (by omega)] at e
        have et := Sum.inl.inj e
        subst et
        have ez := h (z - n) (by omega) (.inl (by rw [show n + (z - n) = z by omega]; omega))
        rw [show n + (z - n) = z by omega] at ez
        have e' : cstep b g n n (true, z) = .inl (false, a.getD z 0 - n) := by rw [cs_tg (by rw [← ez]; omega), ez]
        obtain ⟨i1, i2⟩ := ih fun q => absurd q Bool.false_ne_true
        exact ⟨fun hy => .go e' (i1 hy), fun hy => by obtain ⟨y', h1, h2⟩ := i2 hy; exact ⟨y', h1, .go e' h2⟩⟩
theorem fol_lo_ends {a g : List Nat} {n x : Nat} (ha : IsPair (2 * n) a) (hg : IsPair (2 * n) g) (hx : x < n) : Ends (cstep a g n n) (false, n + x) ((fol a g n).getD (n + x) 0) := by
  have w := cmp_ends ha.two hg.two (show n + x < n + n by omega)
  unfold cst at w
  rw [if_neg (by omega), show n + (n + x - n) = n + x by omega] at w
  exact w
theorem fol_up_ends {a g : List Nat} {n x : Nat} (ha : IsPair (2 * n) a) (hg : IsPair (2 * n) g) (hx : x < n) (h : n ≤ a.getD x 0) : Ends (cstep a g n n) (false, a.getD x 0 - n) ((fol a g n).getD x 0) := by
  have w := cmp_ends ha.two hg.two (show x < n + n by omega)
  unfold cst at w
  rw [if_pos hx] at w
  cases w with
  | stop e => rw [cs_tg h] at e; cases e
  | go e w => rw [cs_tg h] at e; rw [← Sum.inl.inj e] at w; exact w
theorem slo_fol {a b g : List Nat} {n : Nat} (ha : IsPair (2 * n) a) (hb : IsPair (2 * n) b) (hg : IsPair (2 * n) g) (h : SLo n a b) : SLo n (fol a g n) (fol b g n) := fun x hx c => by
  have w := fol_lo_ends ha hg hx
  have v := fol_lo_ends hb hg hx
  rcases c with c | c
  · exact ((slo_ends h w (fun q => absurd q Bool.false_ne_true)).1 c).det v
  · exact (((slo_ends h.symm v (fun q => absurd q Bool.false_ne_true)).1 c).det w).symm
section
variable {f : List Nat} {n : Nat} (hn : 0 < n) (hf : IsPair (2 * n) f)
include hn hf
theorem pw_front (k : Nat) : pw f n (k + 1) = fol f (pw f n k) n := by
  rw [show k + 1 = 1 + k by omega, ← pw_add hn hf 1 k, pw_one hn hf]
theorem pw_lo (k j : Nat) {x : Nat} (hx : x < n) (h : n ≤ (pw f n k).getD (n + x) 0) : (pw f n (k + j)).getD (n + x) 0 = (pw f n k).getD (n + x) 0 := by
  induction j with
  | zero => rfl
  | succ j ih => rw [show k + (j + 1) = (k + j) + 1 by omega, pw_front hn hf, folL hx (by rw [ih]; exact h), ih]
theorem pw_up (k j : Nat) {x : Nat} (hx : x < n) (h : (pw f n k).getD x 0 < n) : (pw f n (k + j)).getD x 0 = (pw f n k).getD x 0 := by
  induction j with
  | zero => rfl
  | succ j ih =>
    show (fol (pw f n (k + j)) f n).getD x 0 = _
    rw [folU hx (by rw [ih]; exact h), ih]
theorem lse_sub (k j : Nat) : ∀ x ∈ lse (pw f n (k + j)) n, x ∈ lse (pw f n k) n := fun x hx => by
  have h := List.mem_filter.mp hx
  have hxn := List.mem_range.mp h.1
  refine List.mem_filter.mpr ⟨h.1, decide_eq_true ?_⟩
  have h2 := of_decide_eq_true h.2
  by_cases c : (pw f n k).getD (n + x) 0 < n
  · exact c
  · rw [pw_lo hn hf k j hxn (by omega)] at h2; omega
theorem lse_mem {g : List Nat} {x : Nat} : x ∈ lse g n ↔ x < n ∧ g.getD (n + x) 0 < n := by
  unfold lse
  rw [List.mem_filter, List.mem_range]
  exact ⟨fun h => ⟨h.1, of_decide_eq_true h.2⟩, fun h => ⟨h.1, decide_eq_true h.2⟩⟩
theorem lse_less (k : Nat) : (lse (pw f n (k + 1)) n).length ≤ (lse (pw f n k) n).length ∧ ((lse (pw f n (k + 1)) n).length = (lse (pw f n k) n).length → SLo n (pw f n k) (pw f n (k + 1))) := by
  have sub : ∀ x ∈ List.range n, lsC (pw f n (k + 1)) n x = true → lsC (pw f n k) n x = true := fun x hx h =>
    (List.mem_filter.mp (lse_sub hn hf k 1 x (List.mem_filter.mpr ⟨hx, h⟩))).2
  refine ⟨flt_len_le _ sub, fun e x hx c => ?_⟩
  rcases c with c | c
  · exact (pw_lo hn hf k 1 hx c).symm
  · by_cases d : n ≤ (pw f n k).getD (n + x) 0
    · exact (pw_lo hn hf k 1 hx d).symm
    · have := flt_len_lt (p := lsC (pw f n k) n) (q := lsC (pw f n (k + 1)) n) (List.range n) sub ⟨x, List.mem_range.mpr hx, decide_eq_true (by omega), fun h => by have := of_decide_eq_true h; omega⟩
      exact absurd e (Nat.ne_of_lt this)
theorem slo_from {k : Nat} (h : SLo n (pw f n k) (pw f n (k + 1))) : ∀ j, SLo n (pw f n k) (pw f n (k + j)) ∧ SLo n (pw f n (k + j)) (pw f n (k + j + 1))
  | 0 => ⟨.refl, h⟩
  | j + 1 => by
    obtain ⟨h1, h2⟩ := slo_from h j
    exact ⟨h1.trans h2, slo_fol (pw_pair hn hf _) (pw_pair hn hf _) hf h2⟩
/-- from n repetitions on the lower pairs stay -/
theorem slo_n (j : Nat) : SLo n (pw f n n) (pw f n (n + j)) := by
  have : ∃ k, k ≤ n ∧ (lse (pw f n (k + 1)) n).length = (lse (pw f n k) n).length := by
    apply Classical.byContradiction
    intro hno
    have dec : ∀ k, k ≤ n + 1 → (lse (pw f n k) n).length + k ≤ n := fun k => by
      induction k with
      | zero => intro _; exact Nat.le_trans (List.length_filter_le _ _) (by rw [List.length_range]; exact Nat.le_refl _)
      | succ k ih =>
        intro hk
        have h1 := ih (by omega)
        have h2 := (lse_less hn hf k).1
        have h3 : (lse (pw f n (k + 1)) n).length ≠ (lse (pw f n k) n).length := fun e => hno ⟨k, by omega, e⟩
        omega
    have := dec (n + 1) (Nat.le_refl _)
    omega
  obtain ⟨k, hk, e⟩ := this
  have h := (lse_less hn hf k).2 e
  have h1 := (slo_from hn hf h (n - k)).1
  have h2 := (slo_from hn hf h (n - k + j)).1
  rw [show k + (n - k) = n by omega] at h1
  rw [show k + (n - k + j) = n + j by omega] at h2
  exact h1.symm.trans h2
theorem lse_n (j : Nat) : lse (pw f n (n + j)) n = lse (pw f n n) n := by
  unfold lse
  refine List.filter_congr fun x hx => ?_
  have hx' := List.mem_range.mp hx
  have h := slo_n hn hf j x hx'
  show decide _ = decide _
  refine decide_eq_decide.mpr ⟨fun c => ?_, fun c => ?_⟩
  · by_cases d : (pw f n n).getD (n + x) 0 < n
    · exact d
    · rw [← h (.inl (by omega))] at c; exact c
  · by_cases d : (pw f n (n + j)).getD (n + x) 0 < n
    · exact d
    · rw [h (.inr (by omega))] at c; exact c
/-- the upper ends of strands stay as well -/
theorem up_n (j : Nat) {x : Nat} (hx : x < n) : n ≤ (pw f n (n + j)).getD x 0 ↔ n ≤ (pw f n n).getD x 0 := by
  have sub : ∀ x ∈ List.range n, decide (n ≤ (pw f n (n + j)).getD x 0) = true → decide (n ≤ (pw f n n).getD x 0) = true := fun x hx h => by
    have h' := of_decide_eq_true h
    by_cases c : n ≤ (pw f n n).getD x 0
    · exact decide_eq_true c
    · rw [pw_up hn hf n j (List.mem_range.mp hx) (by omega)] at h'; omega
  have e1 := lse_len (pw_pair hn hf (n + j))
  have e2 := lse_len (pw_pair hn hf n)
  rw [lse_n hn hf j, e2] at e1
  have sl : ∀ g : List Nat, (sts g n).length = ((List.range n).filter fun x => decide (n ≤ g.getD x 0)).length := fun g => by
    unfold sts selN; rw [List.length_map]; rfl
  rw [sl, sl] at e1
  refine ⟨fun h => of_decide_eq_true (sub x (List.mem_range.mpr hx) (decide_eq_true h)), fun h => ?_⟩
  by_cases c : n ≤ (pw f n (n + j)).getD x 0
  · exact c
  · have := flt_len_lt (p := fun x => decide (n ≤ (pw f n n).getD x 0)) (q := fun x => decide (n ≤ (pw f n (n + j)).getD x 0)) (List.range n) sub ⟨x, List.mem_range.mpr hx, decide_eq_true h, fun z => c (of_decide_eq_true z)⟩
    omega
end
/-- where the lower end of a strand goes by one more repetition -/
noncomputable def mvs (f : List Nat) (n z : Nat) : Nat := (pw f n (n + 1)).getD ((pw f n n).getD (n + z) 0) 0 - n
def itn (g : Nat → Nat) : Nat → Nat → Nat
  | 0, z => z
  | k + 1, z => g (itn g k z)
theorem itn_add (g : Nat → Nat) (z i : Nat) : ∀ j, itn g (i + j) z = itn g j (itn g i z)
  | 0 => rfl
  | j + 1 => by show g (itn g (i + j) z) = g _; rw [itn_add g z i j]
section
variable {f : List Nat} {n : Nat} (hn : 0 < n) (hf : IsPair (2 * n) f)
include hn hf
theorem lse_back (j : Nat) {z : Nat} (hz : z ∈ lse (pw f n n) n) : z < n ∧ (pw f n (n + j)).getD (n + z) 0 < n ∧ (pw f n (n + j)).getD ((pw f n (n + j)).getD (n + z) 0) 0 = n + z := by
  rw [← lse_n hn hf j] at hz
  have h := (lse_mem hn hf).mp hz
  exact ⟨h.1, h.2, ((pw_pair hn hf (n + j)).d (show n + z < 2 * n by omega)).2.2.1⟩
theorem up_mem (j : Nat) {x : Nat} (hx : x < n) (h : n ≤ (pw f n n).getD x 0) : (pw f n (n + j)).getD x 0 - n ∈ lse (pw f n n) n := by
  have h1 := (up_n hn hf j hx).mpr h
  have d := (pw_pair hn hf (n + j)).d (show x < 2 * n by omega)
  rw [← lse_n hn hf j]
  exact (lse_mem hn hf).mpr ⟨by omega, by rw [show n + ((pw f n (n + j)).getD x 0 - n) = (pw f n (n + j)).getD x 0 by omega, d.2.2.1]; exact hx⟩
theorem mvs_step (j : Nat) {x : Nat} (hx : x < n) (h : n ≤ (pw f n n).getD x 0) : (pw f n (n + j + 1)).getD x 0 = n + mvs f n ((pw f n (n + j)).getD x 0 - n) := by
  have h1 := (up_n hn hf j hx).mpr h
  have h2 := (up_n hn hf (j + 1) hx).mpr h
  have hz := up_mem hn hf j hx h
  obtain ⟨z, ez⟩ : ∃ z, z = (pw f n (n + j)).getD x 0 - n := ⟨_, rfl⟩
  rw [← ez] at hz ⊢
  obtain ⟨b1, b2, b3⟩ := lse_back hn hf 0 hz
  have w := fol_up_ends (pw_pair hn hf (n + j)) hf hx h1
  rw [← ez] at w
  have w2 := (slo_ends (slo_n hn hf j).symm w (fun q => absurd q Bool.false_ne_true)).1 h2
  have v := fol_up_ends (pw_pair hn hf n) hf b2 (by rw [show pw f n (n + 0) = pw f n n from rfl] at b3; rw [show pw f n (n + 0) = pw f n n from rfl, b3]; omega)
  rw [show pw f n (n + 0) = pw f n n from rfl] at b3 v b2
  rw [b3, show n + z - n = z by omega] at v
  have e : (pw f n (n + j + 1)).getD x 0 = (pw f n (n + 1)).getD ((pw f n n).getD (n + z) 0) 0 := w2.det v
  have g := (up_n hn hf 1 b2).mpr (by rw [b3]; omega)
  unfold mvs
  rw [e]; omega
theorem mvs_mem {z : Nat} (hz : z ∈ lse (pw f n n) n) : mvs f n z ∈ lse (pw f n n) n := by
  obtain ⟨b1, b2, b3⟩ := lse_back hn hf 0 hz
  rw [show pw f n (n + 0) = pw f n n from rfl] at b2 b3
  exact up_mem hn hf 1 b2 (by rw [b3]; omega)
theorem mvs_inj {z y : Nat} (hz : z ∈ lse (pw f n n) n) (hy : y ∈ lse (pw f n n) n) (e : mvs f n z = mvs f n y) : z = y := by
  obtain ⟨b1, b2, b3⟩ := lse_back hn hf 0 hz
  obtain ⟨c1, c2, c3⟩ := lse_back hn hf 0 hy
  rw [show pw f n (n + 0) = pw f n n from rfl] at b2 b3 c2 c3
  have g1 := (up_n hn hf 1 b2).mpr (by rw [b3]; omega)
  have g2 := (up_n hn hf 1 c2).mpr (by rw [c3]; omega)
  unfold mvs at e
  have := (pw_pair hn hf (n + 1)).inj (show (pw f n n).getD (n + z) 0 < 2 * n by omega) (show (pw f n n).getD (n + y) 0 < 2 * n by omega) (by omega)
  rw [this] at b3
  omega
theorem itn_mem {z : Nat} (hz : z ∈ lse (pw f n n) n) : ∀ k, itn (mvs f n) k z ∈ lse (pw f n n) n
  | 0 => hz
  | k + 1 => mvs_mem hn hf (itn_mem hz k)
theorem mvs_it {x : Nat} (hx : x < n) (h : n ≤ (pw f n n).getD x 0) : ∀ j, (pw f n (n + j)).getD x 0 = n + itn (mvs f n) j ((pw f n n).getD x 0 - n)
  | 0 => by show (pw f n n).getD x 0 = n + ((pw f n n).getD x 0 - n); omega
  | j + 1 => by
    rw [show n + (j + 1) = n + j + 1 by omega, mvs_step hn hf j hx h, mvs_it hx h j, show n + itn (mvs f n) j ((pw f n n).getD x 0 - n) - n = itn (mvs f n) j ((pw f n n).getD x 0 - n) by omega]
    rfl
/-- when sheets recur -/
theorem pw_same (i j : Nat) : pw f n (n + i) = pw f n (n + j) ↔ ∀ z ∈ lse (pw f n n) n, itn (mvs f n) i z = itn (mvs f n) j z := by
  constructor
  · intro e z hz
    obtain ⟨b1, b2, b3⟩ := lse_back hn hf 0 hz
    rw [show pw f n (n + 0) = pw f n n from rfl] at b2 b3
    have h : n ≤ (pw f n n).getD ((pw f n n).getD (n + z) 0) 0 := by rw [b3]; omega
    have e1 := mvs_it hn hf b2 h i
    have e2 := mvs_it hn hf b2 h j
    rw [b3, show n + z - n = z by omega] at e1 e2
    rw [e] at e1
    omega
  · intro h
    have pi := pw_pair hn hf (n + i)
    have pj := pw_pair hn hf (n + j)
    have up : ∀ x, x < n → (pw f n (n + i)).getD x 0 = (pw f n (n + j)).getD x 0 := fun x hx => by
      by_cases c : n ≤ (pw f n n).getD x 0
      · rw [mvs_it hn hf hx c i, mvs_it hn hf hx c j, h _ (show (pw f n n).getD x 0 - n ∈ _ from up_mem hn hf 0 hx c)]
      · rw [pw_up hn hf n i hx (by omega), pw_up hn hf n j hx (by omega)]
    have lo : ∀ x, x < n → (pw f n (n + i)).getD (n + x) 0 = (pw f n (n + j)).getD (n + x) 0 := fun x hx => by
      by_cases c : x ∈ lse (pw f n n) n
      · obtain ⟨_, b2, b3⟩ := lse_back hn hf i c
        obtain ⟨_, c2, c3⟩ := lse_back hn hf j c
        rw [up _ b2] at b3
        exact pj.inj (by omega) (by omega) (b3.trans c3.symm)
      · have h1 : n ≤ (pw f n n).getD (n + x) 0 := by
          by_cases d : n ≤ (pw f n n).getD (n + x) 0
          · exact d
          · exact absurd ((lse_mem hn hf).mpr ⟨hx, by omega⟩) c
        rw [pw_lo hn hf n i hx h1, pw_lo hn hf n j hx h1]
    refine List.ext_getElem? fun z => ?_
    by_cases c : z < 2 * n
    · rw [(pi.d c).2.2.2, (pj.d c).2.2.2]
      by_cases d : z < n
      · rw [up z d]
      · have := lo (z - n) (by omega)
        rw [show n + (z - n) = z by omega] at this
        rw [this]
    · rw [List.getElem?_eq_none (by rw [pi.len]; omega), List.getElem?_eq_none (by rw [pj.len]; omega)]
end
end Pc
namespace Pc
/-! ### cycles of a permutation, and when a sequence recurs -/
theorem nd_subL : ∀ (l m : List Nat), l.Nodup → (∀ y ∈ l, y ∈ m) → l.length ≤ m.length
  | [], _, _, _ => Nat.zero_le _
  | a :: l, m, hd, h => by
    have hd' := List.nodup_cons.mp hd
    have ha := h a List.mem_cons_self
    have h1 := nd_subL l (m.erase a) hd'.2 fun y hy => (List.mem_erase_of_ne (fun e => hd'.1 (by rw [← e]; exact hy))).mpr (h y (List.mem_cons_of_mem _ hy))
    have h2 := List.length_erase_of_mem ha
    have h3 := List.length_pos_of_mem ha
    rw [List.length_cons]; omega
section
variable {g : Nat → Nat} {B : List Nat} (cl : ∀ z ∈ B, g z ∈ B) (inj : ∀ z ∈ B, ∀ y ∈ B, g z = g y → z = y)
include cl
theorem it_mem {z : Nat} (hz : z ∈ B) : ∀ k, itn g k z ∈ B
  | 0 => hz
  | k + 1 => cl _ (it_mem hz k)
include inj
theorem it_inj {z y : Nat} (hz : z ∈ B) (hy : y ∈ B) : ∀ k, itn g k z = itn g k y → z = y
  | 0, e => e
  | k + 1, e => it_inj hz hy k (inj _ (it_mem cl hz k) _ (it_mem cl hy k) e)
theorem cyc_ex {z : Nat} (hz : z ∈ B) : ∃ m, 1 ≤ m ∧ m ≤ B.length ∧ itn g m z = z := by
  apply Classical.byContradiction
  intro hno
  have hd : ((List.range (B.length + 1)).map fun i => itn g i z).Nodup := by
    rw [List.nodup_iff_pairwise_ne, List.pairwise_map]
    refine List.Pairwise.imp_of_mem ?_ List.pairwise_lt_range
    intro i j hi hj hij e
    have hj' := List.mem_range.mp hj
    rw [show j = (j - i) + i by omega, itn_add] at e
    have := it_inj cl inj hz (it_mem cl hz (j - i)) i e
    exact hno ⟨j - i, by omega, by omega, this.symm⟩
  have := nd_subL _ B hd fun y hy => by
    obtain ⟨i, _, rfl⟩ := List.mem_map.mp hy
    exact it_mem cl hz i
  rw [List.length_map, List.length_range] at this
  omega
end
def IsLen (g : Nat → Nat) (z L : Nat) : Prop := 1 ≤ L ∧ itn g L z = z ∧ ∀ m, 1 ≤ m → m < L → itn g m z ≠ z
theorem itn_mul {g : Nat → Nat} {z L : Nat} (h : itn g L z = z) : ∀ k, itn g (L * k) z = z
  | 0 => rfl
  | k + 1 => by rw [Nat.mul_succ, itn_add, itn_mul h k, h]
theorem IsLen.dvd {g : Nat → Nat} {z L : Nat} (h : IsLen g z L) (q : Nat) : itn g q z = z ↔ L ∣ q := by
  constructor
  · intro e
    obtain ⟨h1, h2, h3⟩ := h
    have hr : q % L < L := Nat.mod_lt _ (by omega)
    have e2 : itn g (q % L) z = z := by
      have := e
      rw [show q = L * (q / L) + q % L from (Nat.div_add_mod _ _).symm, itn_add, itn_mul h2] at this
      exact this
    rcases Nat.eq_zero_or_pos (q % L) with c | c
    · exact Nat.dvd_of_mod_eq_zero c
    · exact absurd e2 (h3 _ c hr)
  · rintro ⟨k, rfl⟩
    exact itn_mul h.2.1 k
/-- greater than one, and it divides one of two whose product it divides -/
def Pri (r : Nat) : Prop := 2 ≤ r ∧ ∀ a b, r ∣ a * b → r ∣ a ∨ r ∣ b
theorem pri_ex : ∀ (m t : Nat), 2 ≤ t → t ≤ m → ∃ r, Pri r ∧ r ∣ t ∧ r ≤ t
  | 0, t, h, h2 => by omega
  | m + 1, t, h, h2 => by
    by_cases c : ∃ d, 2 ≤ d ∧ d < t ∧ d ∣ t
    · obtain ⟨d, h3, h4, h5⟩ := c
      obtain ⟨r, h6, h7, h8⟩ := pri_ex m d h3 (by omega)
      exact ⟨r, h6, Nat.dvd_trans h7 h5, by omega⟩
    · refine ⟨t, ⟨h, fun a b hab => ?_⟩, Nat.dvd_refl _, Nat.le_refl _⟩
      have hg : Nat.gcd t a ∣ t := Nat.gcd_dvd_left _ _
      have hp : 0 < Nat.gcd t a := Nat.gcd_pos_of_pos_left _ (by omega)
      rcases Nat.lt_or_ge (Nat.gcd t a) 2 with d | d
      · have e1 : Nat.gcd t a = 1 := by omega
        exact .inr (Nat.Coprime.dvd_of_dvd_mul_left e1 hab)
      · have hle := Nat.le_of_dvd (by omega) hg
        rcases Nat.lt_or_ge (Nat.gcd t a) t with k | k
        · exact absurd ⟨_, d, k, hg⟩ c
        · have : Nat.gcd t a = t := by omega
          rw [← this]
          exact .inl (Nat.gcd_dvd_right _ _)
/-- the period of some of them: p; it divides M, its prime factors are n at most -/
structure PerI (g : Nat → Nat) (ds : List Nat) (n M p : Nat) : Prop where
  pos : 1 ≤ p
  dv : p ∣ M
  per : ∀ q, (∀ z ∈ ds, itn g q z = z) ↔ p ∣ q
  few : ∀ r, Pri r → r ∣ p → r ≤ n
theorem PerI.nil {g : Nat → Nat} {n M : Nat} : PerI g [] n M 1 :=
  ⟨Nat.le_refl _, Nat.one_dvd _, fun q => ⟨fun _ => Nat.one_dvd _, fun _ z hz => absurd hz List.not_mem_nil⟩, fun r h d => by have := Nat.le_of_dvd (by decide) d; have := h.1; omega⟩
theorem PerI.step {g : Nat → Nat} {ds : List Nat} {n M p z L : Nat} (h : PerI g ds n M p) (hL : IsLen g z L) (hn : L ≤ n) (hM : L ∣ M) : PerI g (ds ++ [z]) n M (Nat.lcm p L) := by
  refine ⟨Nat.lcm_pos h.pos hL.1, Nat.lcm_dvd h.dv hM, fun q => ⟨fun k => ?_, fun d y hy => ?_⟩, fun r hr d => ?_⟩
  · exact Nat.lcm_dvd ((h.per q).mp fun y hy => k y (List.mem_append.mpr (.inl hy))) ((hL.dvd q).mp (k z (List.mem_append.mpr (.inr (List.mem_singleton.mpr rfl)))))
  · rcases List.mem_append.mp hy with hy | hy
    · exact (h.per q).mpr (Nat.dvd_trans (Nat.dvd_lcm_left _ _) d) y hy
    · rw [List.mem_singleton.mp hy]; exact (hL.dvd q).mpr (Nat.dvd_trans (Nat.dvd_lcm_right _ _) d)
  · have d2 : r ∣ p * L := Nat.dvd_trans d (by unfold Nat.lcm; exact Nat.div_dvd_of_dvd (Nat.dvd_trans (Nat.gcd_dvd_left _ _) (Nat.dvd_mul_right _ _)))
    rcases hr.2 _ _ d2 with k | k
    · exact h.few r hr k
    · exact Nat.le_trans (Nat.le_of_dvd hL.1 k) hn
theorem PerI.det {g : Nat → Nat} {ds : List Nat} {n M p q : Nat} (h : PerI g ds n M p) (k : PerI g ds n M q) : p = q :=
  Nat.dvd_antisymm ((h.per q).mp ((k.per q).mpr (Nat.dvd_refl _))) ((k.per p).mp ((h.per p).mpr (Nat.dvd_refl _)))
section
variable {f : List Nat} {n : Nat} (hn : 0 < n) (hf : IsPair (2 * n) f)
include hn hf
theorem pw_per {M p : Nat} (hp : PerI (mvs f n) (lse (pw f n n) n) n M p) (k q : Nat) : pw f n (n + k + q) = pw f n (n + k) ↔ p ∣ q := by
  have cl := fun z hz => mvs_mem hn hf (z := z) hz
  have inj := fun z hz y hy e => mvs_inj hn hf (z := z) (y := y) hz hy e
  rw [show n + k + q = n + (k + q) by omega, pw_same hn hf, ← hp.per q]
  constructor
  · intro h z hz
    have e := h z hz
    rw [show k + q = q + k by omega, itn_add] at e
    exact it_inj cl inj (it_mem cl hz q) hz k e
  · intro h z hz
    rw [show k + q = q + k by omega, itn_add, h z hz]
theorem pw_dvd {M p : Nat} (hp : PerI (mvs f n) (lse (pw f n n) n) n M p) {b q : Nat} (h : pw f n (b + q) = pw f n b) : p ∣ q := by
  refine (pw_per hn hf hp b q).mp ?_
  rw [show n + b + q = (b + q) + n by omega, show n + b = b + n by omega, ← pw_add hn hf (b + q) n, ← pw_add hn hf b n, h]
end
/-- the index at which a sequence that steps recurs -/
theorem rho {α : Type} {x : Nat → α} {F : α → α} (hF : ∀ k, x (k + 1) = F (x k)) {L a : Nat} (ha : a < L) (hL : x L = x a) (inj : ∀ i j, i < L → j < L → x i = x j → i = j) {b q : Nat} (hq : 0 < q) :
    x (b + q) = x b ↔ a ≤ b ∧ (L - a) ∣ q := by
  have rep : ∀ k, x (a + k) = x (a + k % (L - a)) := by
    intro k
    induction k with
    | zero => rw [Nat.zero_mod]
    | succ k ih =>
      have e : x (a + (k + 1)) = x (a + (k % (L - a) + 1)) := by
        rw [show a + (k + 1) = (a + k) + 1 by omega, hF, ih, ← hF]; rfl
      rw [e]
      have hlt : k % (L - a) < L - a := Nat.mod_lt _ (by omega)
      rcases Nat.lt_or_ge (k % (L - a) + 1) (L - a) with c | c
      · rw [show (k + 1) % (L - a) = k % (L - a) + 1 by rw [Nat.add_mod, Nat.mod_eq_of_lt (show 1 < L - a by omega), Nat.mod_eq_of_lt c]]
      · have e2 : k % (L - a) + 1 = L - a := by omega
        have e3 : (k + 1) % (L - a) = 0 := by
          rw [show k + 1 = (L - a) * (k / (L - a)) + (L - a) by have := Nat.div_add_mod k (L - a); omega, ← Nat.mul_succ, Nat.mul_mod_right]
        rw [e2, e3, show a + (L - a) = L by omega]; exact hL
  have cut : ∀ i, ∃ i', i' < L ∧ x i = x i' ∧ (a ≤ i → a ≤ i' ∧ i' = a + (i - a) % (L - a)) ∧ (i < a → i' = i) := fun i => by
    rcases Nat.lt_or_ge i a with c | c
    · exact ⟨i, by omega, rfl, fun h => by omega, fun _ => rfl⟩
    · have hlt : (i - a) % (L - a) < L - a := Nat.mod_lt _ (by omega)
      refine ⟨a + (i - a) % (L - a), by omega, ?_, fun _ => ⟨by omega, rfl⟩, fun h => by omega⟩
      have := rep (i - a)
      rw [show a + (i - a) = i by omega] at this
      exact this
  constructor
  · intro e
    obtain ⟨i, h1, h2, h3, h4⟩ := cut (b + q)
    obtain ⟨j, k1, k2, k3, k4⟩ := cut b
    have hij := inj i j h1 k1 (h2.symm.trans (e.trans k2))
    rcases Nat.lt_or_ge b a with c | c
    · have ej := k4 c
      rcases Nat.lt_or_ge (b + q) a with d | d
      · have := h4 d; omega
      · have := h3 d; omega
    · refine ⟨c, ?_⟩
      have e1 := (h3 (by omega)).2
      have e2 := (k3 c).2
      have e3 : (b + q - a) % (L - a) = (b - a) % (L - a) := by omega
      have := (Nat.sub_mod_eq_zero_of_mod_eq e3)
      rw [show b + q - a - (b - a) = q by omega] at this
      exact Nat.dvd_of_mod_eq_zero this
  · rintro ⟨hab, t, rfl⟩
    have e1 := rep (b + (L - a) * t - a)
    have e2 := rep (b - a)
    rw [show a + (b + (L - a) * t - a) = b + (L - a) * t by omega] at e1
    rw [show a + (b - a) = b by omega] at e2
    rw [e1, e2, show b + (L - a) * t - a = b - a + (L - a) * t by omega, Nat.add_mul_mod_self_left]
/-- the last of the reduced periods is the least one -/
theorem last_per {n M p q l : Nat} {g : Nat → Nat} {ds : List Nat} (hp : PerI g ds n M p) (hq : q ∣ p) (hl : l ∣ q) (h : ∀ e, 2 ≤ e → e ≤ n → e ∣ q → ¬ l ∣ q / e) : q = l := by
  obtain ⟨t, rfl⟩ := hl
  have hpos : 0 < l * t := Nat.pos_of_dvd_of_pos hq hp.pos
  rcases Nat.lt_or_ge t 2 with c | c
  · have : t ≠ 0 := fun e => by rw [e] at hpos; omega
    have : t = 1 := by omega
    rw [this, Nat.mul_one]
  · obtain ⟨r, h1, ⟨u, rfl⟩, h3⟩ := pri_ex t t c (Nat.le_refl _)
    have hrp : r ∣ p := Nat.dvd_trans ⟨l * u, by rw [Nat.mul_left_comm]⟩ hq
    refine absurd ⟨u, ?_⟩ (h r h1.1 (hp.few r h1 hrp) ⟨l * u, by rw [Nat.mul_left_comm]⟩)
    rw [Nat.mul_left_comm, Nat.mul_div_cancel_left _ (by have := h1.1; omega)]
end Pc
namespace Pc
open PySem PySem.Spec PyProof.Rows L2 RZ
section
variable {P : Program} {w : World} {K : PySem.W.Frag} {mg : Str → Option Value} {base : Heap}
/-! ### sheets one after another -/
def spFarEnd (K : PySem.W.Frag) : Sp := fun vs H Q _ => ∃ (a b : Addr) (f g : List Nat) (n e : Nat), vs = [.ref a, .ref b, .int e] ∧ Sq K H a (nv f) ∧ Sq K H b (nv g) ∧ IsPair (2 * n) f ∧ IsPair (2 * n) g ∧ e < 2 * n ∧ Q (.int ((fol f g n).getD e 0 : Nat)) H
theorem ok_p_far_end (T : Env K mg) : FnOk P w K mg base CX0 2 T.f_p_far_end T.d_p_far_end ["one", "other", "start"] (spFarEnd K) := by
  have G0 : FnOk P w K mg base CX0 1 T.f_p_people_of T.d_p_people_of ["sheet"] (spPeople K) := ok_p_people_of T
  refine T.F_p_far_end.ok sc_p_far_end (fun vs H Q E h => ?_) (fun cdv A outer s H vs Q E hr h => ?_)
  · obtain ⟨a, b, f, g, n, e, rfl, _⟩ := h
    rfl
  · obtain ⟨a, b, f, g, n, e, rfl, ha, hb, hf, hg, he, q⟩ := h
    refine ⟨_, pss_cons (ps_set (i := 3) sc_p_far_end.nd rfl (.inl rfl) (pe_call G0 hr (by rfl) T.g_p_people_of T.F_p_people_of.kp T.b_p_people_of .nil pass0 (pa_cons (pv 0) pa_nil))) <|
      pss_cons (ps_set (i := 4) sc_p_far_end.nd rfl (.inl rfl) (pe_cmpR op_lt (pv 2) (pv 3) (nomark _))) <|
      pss_cons (ps_set (i := 5) sc_p_far_end.nd rfl (.inl rfl) (pe_ifExp (pt_val (pv 4)) (pe_ix ix_seq (pv 0) (pv 2) (fun _ _ => rfl)) (pe_ix ix_seq (pv 1) (pv 2) (fun _ _ => rfl)))) <|
      pss_cons (ps_while PassesOwn.never (pt_cmpR op_eq (pv 4) (pe_cmpR op_ge (pv 5) (pv 3) (nomark _)) (nomark _))
        (pss_cons (ps_set (i := 5) sc_p_far_end.nd rfl (.inl rfl) (pe_ifExp (pt_val (pv 4)) (pe_ix ix_seq (pv 1) (pe_op op_sub (pv 5) (pv 3)) (fun _ _ => rfl)) (pe_ix ix_seq (pv 0) (pe_op op_add (pv 5) (pv 3)) (fun _ _ => rfl)))) <|
        pss_one (ps_set (i := 4) sc_p_far_end.nd rfl (.inl rfl) (pe_not (pv 4))))) <|
      pss_one (ps_ret (pv 5)), ?_⟩
    have W : Ends (cstep f g n n) (cst n n e) ((fol f g n).getD e 0) := cmp_ends hf.two hg.two (show e < n + n by omega)
    have V0 := (cst_val hf.two hg.two (show e < n + n by omega)).1
    obtain ⟨t, W2⟩ := W.count
    have e0 : cst n n e = (decide (e < n), e) := by
      unfold cst
      by_cases c : e < n
      · rw [if_pos c, decide_eq_true c]
      · rw [if_neg c, decide_eq_false c, show n + (e - n) = e by omega]
    rw [e0] at W2 V0
    clear W e0
    generalize (fol f g n).getD e 0 = y at W2 q
    refine ⟨.ref a, rfl, a, f, n, rfl, ha, hf.len, ?_⟩
    refine ⟨_, rfl, _, rfl, _, _, rfl, rfl, ?_⟩
    have fz : ∀ {z : Nat}, z < n + n → f[z]? = some (f.getD z 0) := fun hz => (hf.d (by omega)).2.2.2
    have gz : ∀ {z : Nat}, z < n + n → g[z]? = some (g.getD z 0) := fun hz => (hg.d (by omega)).2.2.2
    have ci : decide ((e : Int) < (n : Int)) = decide (e < n) := by
      by_cases c : e < n
      · rw [decide_eq_true c, decide_eq_true (by omega)]
      · rw [decide_eq_false c, decide_eq_false (by omega)]
    refine ⟨_, rfl, _, rfl, ite2 (fun c => ?wT) (fun c => ?wF)⟩
    case' wT =>
      have c1 : decide (e < n) = true := by rw [← ci]; exact c
      refine ⟨.ref a, rfl, _, rfl, ix_sq ha (nv_at (fz (by omega))) ?_⟩
      have st : [some (V.ref a), some (.ref b), some (.int e), some (.int n), some (.bl (decide ((e : Int) < (n : Int)))), some (.int ((f.getD e 0 : Nat) : Int))] = [some (V.ref a), some (.ref b), some (.int e), some (.int n), some (.bl (decide (e < n))), some (.int ((if decide (e < n) = true then f.getD e 0 else g.getD e 0 : Nat) : Int))] := by rw [ci, c1, if_pos rfl]
    case' wF =>
      have c1 : decide (e < n) = false := by rw [← ci]; exact Bool.eq_false_iff.mpr c
      refine ⟨.ref b, rfl, _, rfl, ix_sq hb (nv_at (gz (by omega))) ?_⟩
      have st : [some (V.ref a), some (.ref b), some (.int e), some (.int n), some (.bl (decide ((e : Int) < (n : Int)))), some (.int ((g.getD e 0 : Nat) : Int))] = [some (V.ref a), some (.ref b), some (.int e), some (.int n), some (.bl (decide (e < n))), some (.int ((if decide (e < n) = true then f.getD e 0 else g.getD e 0 : Nat) : Int))] := by rw [ci, c1, if_neg Bool.false_ne_true]
    all_goals
      refine ⟨fun m σ Hx => Hx = H ∧ ∃ (c : Bool) (z : Nat), σ = [some (.ref a), some (.ref b), some (.int e), some (.int n), some (.bl c), some (.int ((if c = true then f.getD z 0 else g.getD z 0 : Nat) : Int))] ∧ Val n n n (c, z) ∧ EndsN (cstep f g n n) m (c, z) y, ⟨t, rfl, decide (e < n), e, st, V0, W2⟩, fun m σ Hx hW => ?_⟩
      obtain ⟨rfl, c, z, rfl, vz, wz⟩ := hW
      refine ⟨_, rfl, _, rfl, _, rfl, _, _, rfl, rfl, rfl, _, rfl, ?_⟩
      cases c with
      | true =>
        have hz : z < n + n := vz
        have fl := (hf.d (show z < 2 * n by omega)).1
        by_cases p : f.getD z 0 < n
        · refine iteX (by show decide (V.bl true = V.bl (decide ((n : Int) ≤ ((f.getD z 0 : Nat) : Int)))) = false; rw [bl_dec, decide_eq_false (by omega)]; rfl) ?_
          cases wz with
          | go h _ => rw [cs_tl p] at h; cases h
          | stop h => rw [cs_tl p] at h; cases h; exact ⟨_, rfl, q⟩
        · refine iteY (by show decide (V.bl true = V.bl (decide ((n : Int) ≤ ((f.getD z 0 : Nat) : Int)))) = true; rw [bl_dec, decide_eq_true (by omega)]; rfl) ?_
          cases wz with
          | stop h => rw [cs_tg (by omega)] at h; cases h
          | @go t' _ _ _ h w' =>
            rw [cs_tg (by omega)] at h; cases h
            refine ⟨fun σ' H2 => H2 = Hx ∧ ∃ (c : Bool) (z : Nat), σ' = [some (.ref a), some (.ref b), some (.int e), some (.int n), some (.bl c), some (.int ((if c = true then f.getD z 0 else g.getD z 0 : Nat) : Int))] ∧ Val n n n (c, z) ∧ EndsN (cstep f g n n) t' (c, z) y, fun σ' H2 h2 => ⟨t', Nat.lt_succ_self _, h2⟩, ?_⟩
            refine ⟨_, rfl, _, rfl, iteY rfl ⟨.ref b, rfl, _, rfl, _, rfl, _, _, rfl, rfl, ix_sq hb (v := .int ((g.getD (f.getD z 0 - n) 0 : Nat) : Int)) ?_ ?_⟩⟩
            · show atI (nv g) (((f.getD z 0 : Nat) : Int) - (n : Int)) = _
              rw [show ((f.getD z 0 : Nat) : Int) - (n : Int) = ((f.getD z 0 - n : Nat) : Int) by omega]
              exact nv_at (gz (by omega))
            · exact ⟨_, rfl, _, rfl, rfl, false, f.getD z 0 - n, rfl, show f.getD z 0 - n < n + n by omega, w'⟩
      | false =>
        have hz : z < n + n := vz
        have gl := (hg.d (show z < 2 * n by omega)).1
        by_cases p : g.getD z 0 < n
        · refine iteY (by show decide (V.bl false = V.bl (decide ((n : Int) ≤ ((g.getD z 0 : Nat) : Int)))) = true; rw [bl_dec, decide_eq_false (by omega)]; rfl) ?_
          cases wz with
          | stop h => rw [cs_fl p] at h; cases h
          | @go t' _ _ _ h w' =>
            rw [cs_fl p] at h; cases h
            refine ⟨fun σ' H2 => H2 = Hx ∧ ∃ (c : Bool) (z : Nat), σ' = [some (.ref a), some (.ref b), some (.int e), some (.int n), some (.bl c), some (.int ((if c = true then f.getD z 0 else g.getD z 0 : Nat) : Int))] ∧ Val n n n (c, z) ∧ EndsN (cstep f g n n) t' (c, z) y, fun σ' H2 h2 => ⟨t', Nat.lt_succ_self _, h2⟩, ?_⟩
            refine ⟨_, rfl, _, rfl, iteX rfl ⟨.ref a, rfl, _, rfl, _, rfl, _, _, rfl, rfl, ix_sq ha (v := .int ((f.getD (n + g.getD z 0) 0 : Nat) : Int)) ?_ ?_⟩⟩
            · show atI (nv f) (((g.getD z 0 : Nat) : Int) + (n : Int)) = _
              rw [show ((g.getD z 0 : Nat) : Int) + (n : Int) = ((n + g.getD z 0 : Nat) : Int) by omega]
              exact nv_at (fz (by omega))
            · exact ⟨_, rfl, _, rfl, rfl, true, n + g.getD z 0, rfl, show n + g.getD z 0 < n + n by omega, w'⟩
        · refine iteX (by show decide (V.bl false = V.bl (decide ((n : Int) ≤ ((g.getD z 0 : Nat) : Int)))) = false; rw [bl_dec, decide_eq_true (by omega)]; rfl) ?_
          cases wz with
          | go h _ => rw [cs_fg (by omega)] at h; cases h
          | stop h =>
            rw [cs_fg (by omega), show n + (g.getD z 0 - n) = g.getD z 0 by omega] at h; cases h; exact ⟨_, rfl, q⟩
def spFollowed (K : PySem.W.Frag) : Sp := fun vs H Q _ => ∃ (a b : Addr) (f g : List Nat) (n : Nat), vs = [.ref a, .ref b] ∧ Sq K H a (nv f) ∧ Sq K H b (nv g) ∧ IsPair (2 * n) f ∧ IsPair (2 * n) g ∧ n ≤ 500 ∧
  ∀ (H' : Hp) (t : Addr), Same H H' → H t = none → H' t = some (.tup (nv (fol f g n))) → Q (.ref t) H'
theorem take_d {l : List Nat} {i : Nat} (h : i < l.length) : l.take (i + 1) = l.take i ++ [l.getD i 0] := by
  rw [List.take_add_one, List.getD_eq_getElem?_getD, List.getElem?_eq_getElem h]; rfl
theorem ok_p_followed (T : Env K mg) : FnOk P w K mg base CX0 3 T.f_p_followed T.d_p_followed ["one", "other"] (spFollowed K) := by
  have G0 : FnOk P w K mg base CX0 1 T.f_p_people_of T.d_p_people_of ["sheet"] (spPeople K) := ok_p_people_of T
  have G1 : FnOk P w K mg base CX0 1 T.f_p_check_sizes T.d_p_check_sizes ["first", "second"] spCheckSizes := ok_p_check_sizes T
  have G2 : FnOk P w K mg base CX0 2 T.f_p_far_end T.d_p_far_end ["one", "other", "start"] (spFarEnd K) := ok_p_far_end T
  refine T.F_p_followed.ok sc_p_followed (fun vs H Q E h => ?_) (fun cdv A outer s H vs Q E hr h => ?_)
  · obtain ⟨a, b, f, g, n, rfl, _⟩ := h
    rfl
  · obtain ⟨a, b, f, g, n, rfl, ha, hb, hf, hg, hn, q⟩ := h
    have h1 := hr.mono (show 1 ≤ 2 by decide)
    refine ⟨_, pss_cons (ps_expr (pe_call G1 h1 (by rfl) T.g_p_check_sizes T.F_p_check_sizes.kp T.b_p_check_sizes .nil pass0 (pa_cons (pe_call G0 h1 (by rfl) T.g_p_people_of T.F_p_people_of.kp T.b_p_people_of .nil pass0 (pa_cons (pv 0) pa_nil)) (pa_cons (pe_call G0 h1 (by rfl) T.g_p_people_of T.F_p_people_of.kp T.b_p_people_of .nil pass0 (pa_cons (pv 1) pa_nil)) pa_nil)))) <|
      pss_one (ps_ret (pe_callTy call_tuple_of (by rfl) T.n_tuple (by decide +kernel) (pa_cons
        (pe_lc (own := [("start", 2)]) (g := gName 2) (tt := tYes) (te := tCall (spFarEnd K) [] (fun _ _ _ => False) (tCons (tVar 0) (tCons (tVar 1) (tCons (tVar 2) tNil)))) rfl sc_p_followed.nd
          (pi_range1 (by rfl) T.n_range (pa_cons (pe_callB call_len_seq (by rfl) T.n_len PySem.boot_len (pa_cons (pv 0) pa_nil)) pa_nil)) (blkOk_by (N := N_p_followed) (sc := defScope s_p_followed) (by decide +kernel)) (fun _ _ _ _ _ => pg_name (i := 2) sc_p_followed.nd rfl (.inl rfl)) (fun _ _ _ _ _ => pts_nil)
          (fun _ _ _ _ _ => pe_call G2 hr (by rfl) T.g_p_far_end T.F_p_far_end.kp T.b_p_far_end .nil pass0 (pa_cons (pv 0) (pa_cons (pv 1) (pa_cons (pv 2) pa_nil))))) pa_nil))), ?_⟩
    have hl : ((nv f).length : Int) = ((2 * n : Nat) : Int) := by rw [nv_length, hf.len]
    have fl : (fol f g n).length = 2 * n := (fol_pair hf hg).len
    refine ⟨.ref a, rfl, a, f, n, rfl, ha, hf.len, .ref b, rfl, b, g, n, rfl, hb, hg.len, n, rfl, ?_⟩
    refine ⟨.ref a, rfl, a, _, rfl, ha, _, rfl, by rw [hl]; omega, by rw [hl]; omega, fun D nD => ?_⟩
    rw [show (((nv f).length : Int)).toNat = 2 * n by rw [hl]; omega]
    refine lc_range (n := 2 * n) (fun i H' => Same H H' ∧ H' D = some (.lst (nv ((fol f g n).take i)))) ⟨same_new nD, upd_same⟩ (fun i H1 hi hPv => ?_) (fun H1 hPv => ?_)
    · obtain ⟨sm, eD⟩ := hPv
      refine ⟨rfl, yes_if ⟨.ref a, rfl, .ref b, rfl, _, rfl, a, b, f, g, n, i, ?_, ha.same sm, hb.same sm, hf, hg, hi, _, eD, line_big (by rw [nv_length, List.length_take, fl]; omega), fun x o hx => ?_, ?_⟩⟩
      · show [V.ref a, V.ref b, V.int ((0 : Int) + (i : Nat))] = _
        rw [Int.zero_add]
      · rw [upd_ne (ne_of_none hx nD)]; exact sm _ _ hx
      · rw [upd_same, take_d (by rw [fl]; exact hi), ← nv_snoc']
    · obtain ⟨s1, eD⟩ := hPv
      rw [List.take_of_length_le (Nat.le_of_eq fl)] at eD
      exact ⟨D, _, rfl, .inl ⟨.inl (.inl eD), fun t nt => q _ t (s1.trans (same_new nt)) (s1.free nt) upd_same⟩⟩
end
end Pc
namespace Pc
open PySem PySem.Spec PyProof.Rows L2 RZ
section
variable {P : Program} {w : World} {K : PySem.W.Frag} {mg : Str → Option Value} {base : Heap}
/-! ### many times -/
def spTimes (K : PySem.W.Frag) : Sp := fun vs H Q _ => ∃ (a : Addr) (f : List Nat) (n k : Nat), vs = [.ref a, .int k] ∧ Sq K H a (nv f) ∧ IsPair (2 * n) f ∧ 0 < n ∧ n ≤ 500 ∧
  ∀ (H' : Hp) (t : Addr), Same H H' → H t = none → H' t = some (.tup (nv (pw f n k))) → Q (.ref t) H'
theorem ok_p_times (T : Env K mg) : FnOk P w K mg base CX0 4 T.f_p_times T.d_p_times ["sheet", "many"] (spTimes K) := by
  have G0 : FnOk P w K mg base CX0 1 T.f_p_people_of T.d_p_people_of ["sheet"] (spPeople K) := ok_p_people_of T
  have Ge : FnOk P w K mg base CX0 1 T.f_p_empty_sheet T.d_p_empty_sheet ["size"] spEmpty := ok_p_empty_sheet T
  have GF : FnOk P w K mg base CX0 3 T.f_p_followed T.d_p_followed ["one", "other"] (spFollowed K) := ok_p_followed T
  refine T.F_p_times.ok sc_p_times (fun vs H Q E h => ?_) (fun cdv A outer s H vs Q E hr h => ?_)
  · obtain ⟨a, f, n, k, rfl, _⟩ := h
    rfl
  · obtain ⟨a, f, n, k, rfl, ha, hf, h0, hn, q⟩ := h
    have h1 := hr.mono (show 1 ≤ 3 by decide)
    refine ⟨_, pss_cons (ps_set (i := 2) sc_p_times.nd rfl (.inl rfl) (pe_call Ge h1 (by rfl) T.g_p_empty_sheet T.F_p_empty_sheet.kp T.b_p_empty_sheet .nil pass0 (pa_cons (pe_call G0 h1 (by rfl) T.g_p_people_of T.F_p_people_of.kp T.b_p_people_of .nil pass0 (pa_cons (pv 0) pa_nil)) pa_nil))) <|
      pss_cons (ps_set (i := 3) sc_p_times.nd rfl (.inl rfl) (pe_callTy call_tuple_of (by rfl) T.n_tuple (by decide +kernel) (pa_cons (pv 0) pa_nil))) <|
      pss_cons (ps_set (i := 4) sc_p_times.nd rfl (.inl rfl) (pv 1)) <|
      pss_cons (ps_while PassesOwn.never (pt_cmpR op_gt (pv 4) pe_int (nomark _))
        (pss_cons (ps_if (pt_cmpR op_eq (pe_op op_mod (pv 4) pe_int) pe_int (nomark _)) (pss_one (ps_set (i := 2) sc_p_times.nd rfl (.inl rfl) (pe_call GF hr (by rfl) T.g_p_followed T.F_p_followed.kp T.b_p_followed .nil pass0 (pa_cons (pv 2) (pa_cons (pv 3) pa_nil))))) pss_nil) <|
        pss_cons (ps_set (i := 3) sc_p_times.nd rfl (.inl rfl) (pe_call GF hr (by rfl) T.g_p_followed T.F_p_followed.kp T.b_p_followed .nil pass0 (pa_cons (pv 3) (pa_cons (pv 3) pa_nil)))) <|
        pss_one (ps_aug (i := 4) sc_p_times.nd rfl (.inl rfl) pe_int ip_half))) <|
      pss_one (ps_ret (pv 2)), ?_⟩
    refine ⟨.ref a, rfl, a, f, n, rfl, ha, hf.len, n, rfl, by omega, fun H1 d s1 nd ed => ?_⟩
    refine ⟨.ref a, rfl, a, nv f, rfl, ?_⟩
    have pp := pw_pair h0 hf
    rcases ha with hl | ht
    case' inl =>
      refine .inl ⟨s1.seq hl, fun p np => ?_⟩
      have s2 : Same H (upd H1 p (.tup (nv f))) := s1.trans (same_new np)
      have ep : SqT K (upd H1 p (.tup (nv f))) p (nv f) := .inl (.inl upd_same)
      have ed2 : (upd H1 p (.tup (nv f))) d = some (.tup (nv (emp n))) := same_new np _ _ ed
      revert s2 ep ed2
      generalize upd H1 p (.tup (nv f)) = H2
      intro s2 ep ed2
    case' inr =>
      refine .inr ⟨same_tup s1 ht, ?_⟩
      have ep := same_tup s1 ht
      obtain ⟨H2, rfl⟩ : ∃ H2, H2 = H1 := ⟨H1, rfl⟩
      obtain ⟨p, rfl⟩ : ∃ p, p = a := ⟨a, rfl⟩
      have s2 := s1
      have ed2 := ed
    all_goals
      refine ⟨_, rfl, ?_⟩
      refine ⟨fun m σ H' => ∃ (y0 : Option V) (d p : Addr) (done j : Nat), σ = [y0, some (.int k), some (.ref d), some (.ref p), some (.int (m : Nat))] ∧ Same H H' ∧ H d = none ∧ H' d = some (.tup (nv (pw f n done))) ∧ SqT K H' p (nv (pw f n j)) ∧ done + j * m = k,
        ⟨k, _, d, p, 0, 1, rfl, s2, nd, ed2, by rw [pw_one h0 hf]; exact ep, by omega⟩, fun m σ H' hW => ?_⟩
      obtain ⟨y0, d', p', done, j, rfl, sm, nd', ed', ep', hk⟩ := hW
      refine ⟨_, rfl, _, _, rfl, rfl, _, rfl, ite2 (fun c => ?_) (fun c => ?_)⟩
      · have hm : 0 < m := by have := of_decide_eq_true c; omega
        have half : ((m : Int) / 2) = ((m / 2 : Nat) : Int) := by omega
        refine ⟨fun σ' H2 => ∃ (y0 : Option V) (d p : Addr) (done j : Nat), σ' = [y0, some (.int k), some (.ref d), some (.ref p), some (.int (m / 2 : Nat))] ∧ Same H H2 ∧ H d = none ∧ H2 d = some (.tup (nv (pw f n done))) ∧ SqT K H2 p (nv (pw f n j)) ∧ done + j * (m / 2) = k, fun σ' H2 h2 => ⟨m / 2, by omega, h2⟩, ?_⟩
        refine ⟨_, rfl, _, _, rfl, rfl, (show (0 : Int) < 2 by decide), rfl, _, rfl, ite2 (fun c2 => ?_) (fun c2 => ?_)⟩
        · have h2 : m % 2 = 1 := by have := V.int.inj (of_decide_eq_true c2); omega
          refine ⟨_, rfl, _, rfl, d', p', _, _, n, rfl, .inr (.inl (.inl ed')), .inr ep', pp done, pp j, hn, fun H3 d3 s3 nd3 ed3 => ?_⟩
          have hfo : fol (pw f n done) (pw f n j) n = pw f n (done + j) := pw_add h0 hf done j
          rw [hfo] at ed3
          refine ⟨_, rfl, _, rfl, p', p', _, _, n, rfl, .inr (same_tup s3 ep'), .inr (same_tup s3 ep'), pp j, pp j, hn, fun H4 p4 s4 np4 ep4 => ?_⟩
          have hf2 : fol (pw f n j) (pw f n j) n = pw f n (j + j) := pw_add h0 hf j j
          rw [hf2] at ep4
          refine ⟨_, rfl, _, _, rfl, rfl, ⟨by decide, by decide⟩, y0, d3, p4, done + j, j + j, ?_, sm.trans (s3.trans s4), sm.free nd3, s4 _ _ ed3, .inl (.inl ep4), ?_⟩
          · rw [half]; rfl
          · have e2 : m = 2 * (m / 2) + 1 := by omega
            have e3 : j * m = j * (2 * (m / 2)) + j := by rw [← Nat.mul_succ]; exact congrArg (j * ·) e2
            have e4 : j * (2 * (m / 2)) = (j + j) * (m / 2) := by rw [← Nat.mul_assoc, Nat.mul_two]
            omega
        · have h2 : m % 2 = 0 := by
            by_cases z : m % 2 = 1
            · exact absurd (decide_eq_true (show V.int ((m : Int) % 2) = V.int 1 by rw [show (m : Int) % 2 = 1 by omega])) c2
            · omega
          refine ⟨_, rfl, _, rfl, p', p', _, _, n, rfl, .inr ep', .inr ep', pp j, pp j, hn, fun H4 p4 s4 np4 ep4 => ?_⟩
          have hf2 : fol (pw f n j) (pw f n j) n = pw f n (j + j) := pw_add h0 hf j j
          rw [hf2] at ep4
          refine ⟨_, rfl, _, _, rfl, rfl, ⟨by decide, by decide⟩, y0, d', p4, done, j + j, ?_, sm.trans s4, nd', s4 _ _ ed', .inl (.inl ep4), ?_⟩
          · rw [half]; rfl
          · have e2 : m = 2 * (m / 2) := by omega
            have e3 : j * m = j * (2 * (m / 2)) := congrArg (j * ·) e2
            have e4 : j * (2 * (m / 2)) = (j + j) * (m / 2) := by rw [← Nat.mul_assoc, Nat.mul_two]
            omega
      · have hm : m = 0 := by
          by_cases z : m = 0
          · exact z
          · exact absurd (decide_eq_true (show (0 : Int) < (m : Int) by omega)) c
        subst hm
        rw [Nat.mul_zero, Nat.add_zero] at hk
        subst hk
        exact ⟨_, rfl, q H' d' sm nd' ed'⟩
end
end Pc
namespace Pc
open PySem PySem.Spec PyProof.Rows L2 RZ
section
variable {P : Program} {w : World} {K : PySem.W.Frag} {mg : Str → Option Value} {base : Heap}
/-! ### words with somebody who is not there -/
def spRepeated (K : PySem.W.Frag) : Sp := fun vs H Q _ => ∃ (p wd : Addr) (ps : List Nat) (us : List V) (qs : List (Nat × Nat)) (n k : Nat), vs = [.ref p, .ref wd, .int k] ∧ Sq K H p (nv ps) ∧ IsPair n ps ∧ 0 < n ∧ n ≤ 500 ∧ Sq K H wd us ∧ Items K H us qs ∧ Calls n qs ∧
  ∀ (H' : Hp) (t : Addr), Same H H' → H t = none → H' t = some (.tup (nv (rd (pw (shw n qs (emp n)) n k) ps n))) → Q (.ref t) H'
theorem ok_p_repeated (T : Env K mg) : FnOk P w K mg base CX0 6 T.f_p_repeated T.d_p_repeated ["pairing", "word", "many"] (spRepeated K) := by
  have G0 : FnOk P w K mg base CX0 5 T.f_p_sheet_of T.d_p_sheet_of ["size", "word"] (spPSheetOf K) := ok_p_sheet_of T
  have G1 : FnOk P w K mg base CX0 4 T.f_p_times T.d_p_times ["sheet", "many"] (spTimes K) := ok_p_times T
  have G2 : FnOk P w K mg base CX0 3 T.f_p_result T.d_p_result ["sheet", "pairing"] (spResult K) := ok_p_result T
  refine T.F_p_repeated.ok sc_p_repeated (fun vs H Q E h => ?_) (fun cdv A outer s H vs Q E hr h => ?_)
  · obtain ⟨p, wd, ps, us, qs, n, k, rfl, _⟩ := h
    rfl
  · obtain ⟨p, wd, ps, us, qs, n, k, rfl, hp, hP, h0, hn, hw, hI, hc, q⟩ := h
    refine ⟨_, pss_one (ps_ret (pe_call G2 (hr.mono (by decide)) (by rfl) T.g_p_result T.F_p_result.kp T.b_p_result .nil pass0 (pa_cons (pe_call G1 (hr.mono (by decide)) (by rfl) T.g_p_times T.F_p_times.kp T.b_p_times .nil pass0 (pa_cons (pe_call G0 hr (by rfl) T.g_p_sheet_of T.F_p_sheet_of.kp T.b_p_sheet_of .nil pass0 (pa_cons (pe_callB call_len_seq (by rfl) T.n_len PySem.boot_len (pa_cons (pv 0) pa_nil)) (pa_cons (pv 1) pa_nil))) (pa_cons (pv 2) pa_nil))) (pa_cons (pv 0) pa_nil)))), ?_⟩
    refine ⟨.ref p, rfl, p, _, rfl, hp, .ref wd, rfl, n, wd, us, qs, ?_, hw, hI, hc, h0, by omega, fun H1 t1 s1 n1 e1 => ?_⟩
    · rw [nv_length, hP.len]; rfl
    have hS := shw_pair (emp_pair h0) hc
    refine ⟨.int k, rfl, t1, _, n, k, rfl, .inr (.inl (.inl e1)), hS, h0, hn, fun H2 t2 s2 n2 e2 => ?_⟩
    refine ⟨.ref p, rfl, t2, p, _, ps, n, rfl, .inr (.inl (.inl e2)), (hp.same s1).same s2, pw_pair h0 hS k, hP, hn, fun H3 t3 s3 n3 e3 => ?_⟩
    exact q H3 t3 ((s1.trans s2).trans s3) ((s1.trans s2).free n3) e3
end
end Pc
namespace Pc
/-! ### how many pairings there are; sheets that recur -/
theorem part_len {α : Type} (g : α → Nat) (B : Nat) : ∀ (T : List Nat) (L : List α), (∀ p ∈ L, g p ∈ T) → (∀ t ∈ T, (L.filter fun p => decide (g p = t)).length ≤ B) → L.length ≤ T.length * B
  | [], L, h, _ => by
    cases L with
    | nil => exact Nat.zero_le _
    | cons p L => exact absurd (h p List.mem_cons_self) List.not_mem_nil
  | t :: T, L, h, hb => by
    have h1 := hb t List.mem_cons_self
    have sp := filter_split (fun p => decide (g p = t)) L
    have ih := part_len g B T (L.filter fun p => !decide (g p = t)) (fun p hp => by
      rw [List.mem_filter] at hp
      rcases List.mem_cons.mp (h p hp.1) with e | e
      · rw [e] at hp; simp at hp
      · exact e) (fun u hu => by
      refine Nat.le_trans ?_ (hb u (List.mem_cons_of_mem _ hu))
      rw [List.filter_filter, ← List.countP_eq_length_filter, ← List.countP_eq_length_filter]
      exact List.countP_mono_left fun x _ h => (Bool.and_eq_true_iff.mp h).1)
    rw [List.length_cons, Nat.succ_mul]
    omega
theorem nodup_one {L : List (List Nat)} (hn : L.Nodup) (h : ∀ p ∈ L, ∀ q ∈ L, p = q) : L.length ≤ 1 := by
  match L, hn with
  | [], _ => exact Nat.zero_le _
  | [_], _ => exact Nat.le_refl _
  | p :: q :: _, hn =>
    have := h p List.mem_cons_self q (List.mem_cons_of_mem _ List.mem_cons_self)
    rw [List.nodup_cons] at hn
    exact absurd (this ▸ List.mem_cons_self) hn.1
/-- pairings that agree outside F -/
theorem many_pairs {n : Nat} : ∀ (r : Nat) (F : List Nat) (L : List (List Nat)), F.length = 2 * r → F.Nodup → L.Nodup → (∀ p ∈ L, IsPair n p) → (∀ z ∈ F, z < n) → (∀ p ∈ L, ∀ z ∈ F, p.getD z 0 ∈ F) → (∀ p ∈ L, ∀ q ∈ L, ∀ z, z < n → z ∉ F → p.getD z 0 = q.getD z 0) → L.length ≤ dfac r
  | 0, F, L, hF, _, hL, hP, _, _, ha => by
    have e : F = [] := List.length_eq_zero_iff.mp hF
    subst e
    refine nodup_one hL fun p hp q hq => list_d (by rw [(hP p hp).len, (hP q hq).len]) fun i hi => ha p hp q hq i (by rw [← (hP p hp).len]; exact hi) List.not_mem_nil
  | r + 1, [], L, hF, _, _, _, _, _, _ => by simp at hF
  | r + 1, s :: F, L, hF, hn, hL, hP, hl, hc, ha => by
    rw [List.nodup_cons] at hn
    have hs := hl s List.mem_cons_self
    have hlen : F.length = 2 * r + 1 := by rw [List.length_cons] at hF; omega
    have key := part_len (fun p : List Nat => p.getD s 0) (dfac r) F L (fun p hp => by
      rcases List.mem_cons.mp (hc p hp s List.mem_cons_self) with e | e
      · exact absurd e ((hP p hp).d hs).2.1
      · exact e) (fun t ht => by
      have htn := hl t (List.mem_cons_of_mem _ ht)
      have tl : (F.erase t).length = 2 * r := by rw [List.length_erase_of_mem ht]; omega
      refine many_pairs r (F.erase t) _ tl (hn.2.erase t) (hL.filter _) (fun p hp => hP p (List.mem_filter.mp hp).1) (fun z hz => hl z (List.mem_cons_of_mem _ (List.mem_of_mem_erase hz))) (fun p hp z hz => ?_) (fun p hp q hq z hz hzF => ?_)
      · rw [List.mem_filter] at hp
        have hps : p.getD s 0 = t := of_decide_eq_true hp.2
        have hzF := (hn.2.mem_erase_iff).mp hz
        have dz := (hP p hp.1).d (hl z (List.mem_cons_of_mem _ hzF.2))
        have ds := (hP p hp.1).d hs
        rw [hn.2.mem_erase_iff]
        refine ⟨fun e => ?_, ?_⟩
        · have := dz.2.2.1
          rw [e, ← hps, ds.2.2.1] at this
          exact hn.1 (this ▸ hzF.2)
        · rcases List.mem_cons.mp (hc p hp.1 z (List.mem_cons_of_mem _ hzF.2)) with e | e
          · have := dz.2.2.1
            rw [e, hps] at this
            exact absurd this.symm hzF.1
          · exact e
      · rw [List.mem_filter] at hp hq
        have hps : p.getD s 0 = t := of_decide_eq_true hp.2
        have hqs : q.getD s 0 = t := of_decide_eq_true hq.2
        by_cases c1 : z = s
        · rw [c1, hps, hqs]
        · by_cases c2 : z = t
          · rw [c2, ← hps, ((hP p hp.1).d hs).2.2.1, hps, ← hqs, ((hP q hq.1).d hs).2.2.1]
          · refine ha p hp.1 q hq.1 z hz fun m => ?_
            rcases List.mem_cons.mp m with e | e
            · exact c1 e
            · exact hzF (hn.2.mem_erase_iff.mpr ⟨c2, e⟩))
    rw [hlen] at key
    show L.length ≤ dfac r * (2 * r + 1)
    rw [Nat.mul_comm]; exact key
end Pc
namespace Pc
open PySem PySem.Spec PyProof.Rows L2 RZ
/-! ### tuples in a list; the first of a sequence -/
theorem lay_nd : ∀ l : List Nat, PyData.canLayAll0 (nd l) = true
  | [] => rfl
  | x :: l => by show (true && PyData.canLayAll0 (nd l)) = true; rw [lay_nd l]; rfl
theorem lay_tds : ∀ ls : List (List Nat), PyData.canLayAll0 (ls.map td) = true
  | [] => rfl
  | l :: ls => by show (PyData.canLayAll0 (nd l) && PyData.canLayAll0 (ls.map td)) = true; rw [lay_nd l, lay_tds ls]; rfl
theorem dep_nd : ∀ l : List Nat, PyData.depthAll (nd l) = 0
  | [] => rfl
  | x :: l => by show max 0 (PyData.depthAll (nd l)) = 0; rw [dep_nd l]; rfl
theorem dep_tds : ∀ ls : List (List Nat), PyData.depthAll (ls.map td) ≤ 1
  | [] => Nat.zero_le _
  | l :: ls => by
    show max (PyData.depthAll (nd l) + 1) (PyData.depthAll (ls.map td)) ≤ 1
    rw [dep_nd l]
    have := dep_tds ls
    omega
theorem sh_td (l : List Nat) : PySem.SeqAt.shaped (td l) = true := by
  show (PyData.canLayAll0 (nd l) && decide (PyData.depthAll (nd l) + 1 ≤ 64)) = true
  rw [lay_nd, dep_nd]; rfl
theorem sh_tds (ls : List (List Nat)) : PySem.SeqAt.shaped (.list (ls.map td)) = true := by
  show (PyData.canLayAll0 (ls.map td) && decide (PyData.depthAll (ls.map td) + 1 ≤ 64)) = true
  rw [lay_tds, decide_eq_true (by have := dep_tds ls; omega)]; rfl
theorem eqv_nd : ∀ f g : List Nat, PyData.eqvAll (nd f) (nd g) = decide (f = g)
  | [], [] => by simp [nd, PyData.eqvAll]
  | [], _ :: _ => by simp [nd, PyData.eqvAll]
  | _ :: _, [] => by simp [nd, PyData.eqvAll]
  | x :: f, y :: g => by
    show PyData.eqvAll (.int (x : Int) :: nd f) (.int (y : Int) :: nd g) = _
    rw [PyData.eqvAll, eqv_nd f g, PyData.eqv]
    by_cases c : x = y
    · subst c; by_cases d : f = g
      · subst d; simp
      · simp [d]
    · have : ¬ ((x : Int) = (y : Int)) := fun z => c (by omega)
      simp [c, this]
theorem eqv_td (f g : List Nat) : PyData.eqv (td f) (td g) = decide (f = g) := by
  show PyData.eqv (.tuple (nd f)) (.tuple (nd g)) = _
  rw [PyData.eqv]; exact eqv_nd f g
theorem any_td (ls : List (List Nat)) (l : List Nat) : ((ls.map td).any fun z => PyData.eqv z (td l)) = decide (l ∈ ls) := by
  rw [List.any_map]
  rw [Bool.eq_iff_iff, List.any_eq_true, decide_eq_true_iff]
  constructor
  · rintro ⟨x, hx, e⟩
    have e' : PyData.eqv (td x) (td l) = true := e
    rw [eqv_td] at e'
    rw [← of_decide_eq_true e']; exact hx
  · intro h
    exact ⟨l, h, by show PyData.eqv (td l) (td l) = true; rw [eqv_td]; exact decide_eq_true rfl⟩
def sqs (x : Nat → List Nat) (k : Nat) : List (List Nat) := (List.range k).map x
theorem sqs_len (x : Nat → List Nat) (k : Nat) : (sqs x k).length = k := by unfold sqs; rw [List.length_map, List.length_range]
theorem sqs_get {x : Nat → List Nat} {k i : Nat} (h : i < k) : (sqs x k)[i]? = some (x i) := by unfold sqs; rw [List.getElem?_map, List.getElem?_range h]; rfl
theorem sqs_mem {x : Nat → List Nat} {k : Nat} {l : List Nat} : l ∈ sqs x k ↔ ∃ i, i < k ∧ x i = l := by
  unfold sqs
  rw [List.mem_map]
  exact ⟨fun ⟨i, hi, e⟩ => ⟨i, List.mem_range.mp hi, e⟩, fun ⟨i, hi, e⟩ => ⟨i, List.mem_range.mpr hi, e⟩⟩
theorem sqs_succ (x : Nat → List Nat) (k : Nat) : sqs x (k + 1) = sqs x k ++ [x k] := by unfold sqs; rw [List.range_succ, List.map_append]; rfl
def rns (qs : List (Nat × Nat)) (ps : List Nat) : Nat → List Nat
  | 0 => ps
  | k + 1 => runs qs (rns qs ps k)
theorem rns_pair {n : Nat} {qs : List (Nat × Nat)} {ps : List Nat} (hp : IsPair n ps) (hc : Calls n qs) : ∀ k, IsPair n (rns qs ps k)
  | 0 => hp
  | k + 1 => runs_pair qs (rns_pair hp hc k) hc
theorem rns_rd {n : Nat} {qs : List (Nat × Nat)} {ps : List Nat} (hn : 0 < n) (hp : IsPair n ps) (hc : Calls n qs) : ∀ k, rns qs ps k = rd (pw (shw n qs (emp n)) n k) ps n
  | 0 => (rd_emp hn hp).symm
  | k + 1 => by
    show runs qs (rns qs ps k) = rd (fol (pw (shw n qs (emp n)) n k) (shw n qs (emp n)) n) ps n
    have hS := shw_pair (emp_pair hn) hc
    rw [rd_fol (pw_pair hn hS k) hS hp, ← rns_rd hn hp hc k, rd_word hn (rns_pair hp hc k) hc]
theorem seq_few {n k : Nat} {x : Nat → List Nat} (hn : n ≤ 14) (he : n % 2 = 0) (hp : ∀ i, IsPair n (x i)) (hd : ∀ i j, i < k → j < k → x i = x j → i = j) : k ≤ 135135 := by
  have hnd : (sqs x k).Nodup := by
    unfold sqs
    rw [List.nodup_iff_pairwise_ne, List.pairwise_map]
    refine List.Pairwise.imp_of_mem ?_ List.pairwise_lt_range
    intro i j hi hj hij e
    have := hd i j (List.mem_range.mp hi) (List.mem_range.mp hj) e
    omega
  have h := many_pairs (n := n) (n / 2) (List.range n) (sqs x k) (by rw [List.length_range]; omega) List.nodup_range hnd (fun p h => by obtain ⟨i, _, rfl⟩ := sqs_mem.mp h; exact hp i)
    (fun z hz => List.mem_range.mp hz) (fun p h z hz => by obtain ⟨i, _, rfl⟩ := sqs_mem.mp h; exact List.mem_range.mpr ((hp i).d (List.mem_range.mp hz)).1)
    (fun p _ q _ z hz hz2 => absurd (List.mem_range.mpr hz) hz2)
  rw [sqs_len] at h
  have h7 : ∀ r, r ≤ 7 → dfac r ≤ 135135 := by decide
  exact Nat.le_trans h (h7 _ (by omega))
/-- a sequence recurs at L for the first time, as at a -/
structure Crs (x : Nat → List Nat) (L a : Nat) : Prop where
  lt : a < L
  rec_ : x L = x a
  inj : ∀ i j, i < L → j < L → x i = x j → i = j
  few : L ≤ 135135
/-- what all numbers up to n divide -/
def lcmTo (n : Nat) : Nat := if n ≤ 12 then 27720 else if n ≤ 16 then 720720 else 232792560
theorem len_dv {n L : Nat} (hn : n ≤ 20) (h : L ≤ n) (h1 : 1 ≤ L) : L ∣ lcmTo n := by
  have a : ∀ L, L ≤ 12 → 1 ≤ L → L ∣ 27720 := by decide
  have b : ∀ L, L ≤ 16 → 1 ≤ L → L ∣ 720720 := by decide
  have c : ∀ L, L ≤ 20 → 1 ≤ L → L ∣ 232792560 := by decide
  unfold lcmTo
  split
  · exact a L (by omega) h1
  · split
    · exact b L (by omega) h1
    · exact c L (by omega) h1
theorem lcmTo_pos (n : Nat) : 0 < lcmTo n ∧ lcmTo n ≤ 232792560 := by
  unfold lcmTo
  split
  · decide
  · split <;> decide
theorem PerI.le {g : Nat → Nat} {ds : List Nat} {n p : Nat} (h : PerI g ds n (lcmTo n) p) (hn : n ≤ 20) : p ≤ 232792560 := Nat.le_trans (Nat.le_of_dvd (lcmTo_pos n).1 h.dv) (lcmTo_pos n).2
/-- what settles tells -/
structure Stl (f : List Nat) (n : Nat) (x : Nat → List Nat) (b q p : Nat) : Prop where
  per : PerI (mvs f n) (lse (pw f n n) n) n (lcmTo n) p
  pos : 1 ≤ q
  dv : q ∣ p
  rec_ : x (b + q) = x b
  fst : ∀ c, c < b → x (c + p) ≠ x c
  mn : ∀ e, 2 ≤ e → e ≤ n → e ∣ q → x (b + q / e) ≠ x b
theorem Stl.crs {f : List Nat} {n : Nat} {x : Nat → List Nat} {b q p : Nat} {F : List Nat → List Nat} (hF : ∀ k, x (k + 1) = F (x k)) (h : Stl f n x b q p) {L j : Nat} (hc : Crs x L j) : b = j ∧ q = L - j := by
  have r := fun {b q : Nat} (hq : 0 < q) => rho hF hc.lt hc.rec_ hc.inj (b := b) (q := q) hq
  obtain ⟨h1, h2⟩ := (r h.pos).mp h.rec_
  have hb : b = j := by
    rcases Nat.lt_or_ge j b with c | c
    · exact absurd ((r h.per.pos).mpr ⟨Nat.le_refl _, Nat.dvd_trans h2 h.dv⟩) (h.fst j c)
    · omega
  refine ⟨hb, last_per h.per h.dv h2 fun e e1 e2 e3 e4 => ?_⟩
  have hp : 0 < q / e := Nat.div_pos (Nat.le_of_dvd h.pos e3) (by omega)
  exact h.mn e e1 e2 e3 ((r hp).mpr ⟨h1, e4⟩)
theorem rep_mul {x : Nat → List Nat} {F : List Nat → List Nat} (hF : ∀ k, x (k + 1) = F (x k)) {b r : Nat} (h : x (b + r) = x b) : ∀ m, x (b + m * r) = x b
  | 0 => by rw [Nat.zero_mul]; rfl
  | m + 1 => by
    have st : ∀ k, x (b + r + k) = x (b + k) := fun k => by
      induction k with
      | zero => exact h
      | succ k ih => rw [show b + r + (k + 1) = (b + r + k) + 1 by omega, hF, ih, ← hF]; rfl
    rw [Nat.succ_mul, show b + (m * r + r) = b + r + m * r by omega, st, rep_mul hF h m]
end Pc
namespace Pc
open PySem PySem.Spec PyProof.Rows L2 RZ
/-! ### lists of two for pairs; sequences further on -/
def Lss (H : Hp) (gs : List Addr) (qs : List (Nat × Nat)) : Prop := gs.length = qs.length ∧ ∀ (j : Nat) (g : Addr) (p : Nat × Nat), gs[j]? = some g → qs[j]? = some p → H g = some (.lst [.int p.1, .int p.2])
theorem lss_items {K : PySem.W.Frag} {H : Hp} {gs : List Addr} {qs : List (Nat × Nat)} (h : Lss H gs qs) : Items K H (gs.map V.ref) qs := ⟨by rw [List.length_map]; exact h.1, fun i v hv => by
  rw [List.getElem?_map] at hv
  cases e' : gs[i]? with
  | none => rw [e'] at hv; cases hv
  | some g =>
    rw [e'] at hv
    obtain ⟨p, hp⟩ := get_some (l := qs) (i := i) (by have := get_lt e'; rw [h.1] at this; exact this)
    exact ⟨g, p, (Option.some.inj hv).symm, hp, .inl (.inl (.inl (h.2 i g p e' hp)))⟩⟩
theorem lss_same {H H' : Hp} {gs : List Addr} {qs : List (Nat × Nat)} (h : Lss H gs qs) (e : Same H H') : Lss H' gs qs := ⟨h.1, fun j g p a b => e _ _ (h.2 j g p a b)⟩
theorem lss_snoc {H H2 : Hp} {gs : List Addr} {qs : List (Nat × Nat)} {i : Nat} {p : Nat × Nat} {D g : Addr} {o : HO} (hg : Lss H gs (qs.take i)) (hp : qs[i]? = some p) (eD : H D = some (.lst (gs.map V.ref))) (s2 : Same H H2) (gD : g ≠ D) (eg : H2 g = some (.lst [.int p.1, .int p.2])) : Lss (upd H2 D o) (gs ++ [g]) (qs.take (i + 1)) := by
  have hi := get_lt hp
  have hgl : gs.length = i := by rw [hg.1, List.length_take]; omega
  refine ⟨?_, fun j g' p' hg' hp' => ?_⟩
  · rw [List.length_append, hgl, List.length_take]
    show i + 1 = _
    omega
  · have hj := get_lt hg'
    rw [List.length_append, hgl, List.length_singleton] at hj
    rw [List.getElem?_take_of_lt hj] at hp'
    by_cases ej : j < i
    · rw [List.getElem?_append_left (by omega)] at hg'
      have hq := hg.2 j g' p' hg' (by rw [List.getElem?_take_of_lt ej]; exact hp')
      have gD' : g' ≠ D := fun zz => by
        rw [zz, eD] at hq
        cases gs with
        | nil => simp at hg'
        | cons a0 r0 => injection (HO.lst.inj (Option.some.inj hq)) with z1; cases z1
      rw [upd_ne gD']; exact s2 _ _ hq
    · have ej2 : j = i := by omega
      subst ej2
      rw [List.getElem?_append_right (by omega), hgl, Nat.sub_self] at hg'
      cases Option.some.inj hg'
      cases Option.some.inj (hp'.symm.trans hp)
      rw [upd_ne gD]; exact eg
theorem crs_none (ps : List Nat) : Crs (rns [] ps) 1 0 := ⟨by decide, rfl, fun i j hi hj _ => by omega, by decide⟩
theorem rns_shift (qs : List (Nat × Nat)) (ps : List Nat) (j : Nat) : ∀ k, rns qs (rns qs ps j) k = rns qs ps (j + k)
  | 0 => rfl
  | k + 1 => by show runs qs (rns qs (rns qs ps j) k) = runs qs (rns qs ps (j + k)); rw [rns_shift qs ps j k]
theorem crs_shift {qs : List (Nat × Nat)} {ps : List Nat} {L j : Nat} (h : Crs (rns qs ps) L j) : Crs (rns qs (rns qs ps j)) (L - j) 0 := by
  have h1 := h.lt
  refine ⟨by omega, ?_, fun a b ha hb e => ?_, Nat.le_trans (Nat.sub_le _ _) h.few⟩
  · rw [rns_shift, rns_shift, show j + (L - j) = L by omega]; exact h.rec_
  · rw [rns_shift, rns_shift] at e
    have := h.inj _ _ (by omega) (by omega) e
    omega
theorem tups_at {H : Hp} {as : List Addr} {ls : List (List Nat)} {j : Nat} {l : List Nat} (h : Tups H as ls) (e : ls[j]? = some l) : ∃ a, as[j]? = some a ∧ H a = some (.tup (nv l)) := by
  have hj := get_lt e
  have hl := h.length
  obtain ⟨a, ha⟩ := get_some (l := as) (i := j) (by omega)
  obtain ⟨l', e', eh⟩ := tups_get h ha
  rw [e] at e'
  cases e'
  exact ⟨a, ha, eh⟩
end Pc
namespace Pc
open PySem PySem.Spec PyProof.Rows L2 RZ
section
variable {P : Program} {w : World} {K : PySem.W.Frag} {mg : Str → Option Value} {base : Heap}
/-! ### the least common multiple -/
def spCommon : Sp := fun vs H Q _ => ∃ (a b : Nat), vs = [.int a, .int b] ∧ 1 ≤ a ∧ 1 ≤ b ∧ a ≤ 1000000000 ∧ b ≤ 1000 ∧ Q (.int ((Nat.lcm a b : Nat) : Int)) H
theorem lcm_way {a b : Nat} (ha : 1 ≤ a) : a / Nat.gcd a b * b = Nat.lcm a b := by
  unfold Nat.lcm
  obtain ⟨k, hk⟩ := Nat.gcd_dvd_left a b
  have hp : 0 < Nat.gcd a b := Nat.gcd_pos_of_pos_left _ ha
  generalize Nat.gcd a b = g at hk hp
  subst hk
  rw [Nat.mul_div_cancel_left _ hp, Nat.mul_assoc, Nat.mul_div_cancel_left _ hp]
theorem ok_p_common_multiple (T : Env K mg) : FnOk P w K mg base CX0 1 T.f_p_common_multiple T.d_p_common_multiple ["one", "other"] spCommon := by
  refine T.F_p_common_multiple.ok sc_p_common_multiple (fun vs H Q E h => ?_) (fun cdv A outer s H vs Q E hr h => ?_)
  · obtain ⟨a, b, rfl, _⟩ := h
    rfl
  · obtain ⟨a, b, rfl, ha, hb, ha2, hb2, q⟩ := h
    refine ⟨_, pss_cons (ps_set (i := 2) sc_p_common_multiple.nd rfl (.inl rfl) (pv 0)) <|
      pss_cons (ps_set (i := 3) sc_p_common_multiple.nd rfl (.inl rfl) (pv 1)) <|
      pss_cons (ps_while PassesOwn.never (pt_cmpR op_gt (pv 3) pe_int (nomark _))
        (pss_one (ps_par (i := 2) (j := 3) (by rfl) sc_p_common_multiple.nd rfl rfl (by decide) rfl rfl (pa_cons (pv 3) (pa_cons (pe_op op_mod (pv 2) (pv 3)) pa_nil)) (by rfl)))) <|
      pss_one (ps_ret (pe_op op_mul (pe_op op_fdiv (pv 0) (pv 2)) (pv 1))), ?_⟩
    refine ⟨_, rfl, ?_⟩
    refine st_set [some (.int a), some (.int b), some (.int a), none] ?_ rfl
    refine ⟨_, rfl, ?_⟩
    refine st_set [some (.int a), some (.int b), some (.int a), some (.int b)] ?_ rfl
    refine ⟨fun m σ H' => ∃ u : Nat, σ = [some (.int a), some (.int b), some (.int u), some (.int (m : Nat))] ∧ H' = H ∧ Nat.gcd u m = Nat.gcd a b, ⟨b, a, rfl, rfl, rfl⟩, fun m σ H' hW => ?_⟩
    obtain ⟨u, rfl, rfl, hg⟩ := hW
    refine ⟨_, rfl, _, _, rfl, rfl, _, rfl, ite2 (fun c => ?_) (fun c => ?_)⟩
    · have hm : 0 < m := by have := of_decide_eq_true c; omega
      refine ⟨fun σ' H2 => ∃ v : Nat, σ' = [some (.int a), some (.int b), some (.int v), some (.int (u % m : Nat))] ∧ H2 = H' ∧ Nat.gcd v (u % m) = Nat.gcd a b, fun σ' H2 h2 => ⟨u % m, Nat.mod_lt _ hm, h2⟩, ?_⟩
      refine ⟨_, rfl, _, rfl, _, rfl, _, _, rfl, rfl, (show (0 : Int) < (m : Nat) by omega), ⟨_, _, rfl, ?_⟩⟩
      refine ⟨m, ?_, rfl, ?_⟩
      · rw [show (fun i j => V.int (i % j)) (u : Int) (m : Int) = V.int ((u % m : Nat) : Int) from congrArg V.int (by omega)]; rfl
      · rw [← hg, Nat.gcd_comm u m, Nat.gcd_rec m u, Nat.gcd_comm]
    · have hm : m = 0 := by
        by_cases z : m = 0
        · exact z
        · exact absurd (decide_eq_true (show (0 : Int) < (m : Int) by omega)) c
      subst hm
      rw [Nat.gcd_zero_right] at hg
      have hgp : 0 < Nat.gcd a b := Nat.gcd_pos_of_pos_left _ ha
      have hgl : Nat.gcd a b ≤ a := Nat.gcd_le_left _ ha
      have hle : a / Nat.gcd a b ≤ a := Nat.div_le_self _ _
      subst hg
      refine ⟨_, rfl, _, rfl, _, _, rfl, rfl, ⟨by omega, by omega⟩, _, rfl, _, _, rfl, rfl, .inr ⟨by omega, by omega⟩, ?_⟩
      show Q (.int ((a : Int) / (Nat.gcd a b : Nat) * (b : Nat))) H'
      rw [show ((a : Int) / (Nat.gcd a b : Nat) * (b : Nat)) = ((a / Nat.gcd a b * b : Nat) : Int) by rw [Int.natCast_mul, Int.natCast_ediv], lcm_way ha]
      exact q
theorem sq_same {K : PySem.W.Frag} {H H' : Hp} {a : Addr} {xs : List V} (s : Same H H') (h : Sq K H a xs) : Sq K H' a xs := h.elim (fun h => .inl (s.seq h)) (fun h => .inr (same_tup s h))
theorem units1 {k : Nat} {A : Around} (r : Room k A) : A.units + 1 < cLine := by have := r.units; omega
/-! ### where strands go -/
theorem valV_none {kvs : List (Key × V)} {k : Key} (h : ∀ p ∈ kvs, p.1 ≠ k) : valV kvs k = none := by
  induction kvs with
  | nil => rfl
  | cons p r ih => rw [valV_neg (h p List.mem_cons_self)]; exact ih fun q hq => h q (List.mem_cons_of_mem _ hq)
theorem valV_of {us : List Nat} {F : Nat → Key} {G : Nat → V} (inj : ∀ x ∈ us, ∀ y ∈ us, F x = F y → x = y) {x : Nat} (hx : x ∈ us) : valV (us.map fun x => (F x, G x)) (F x) = some (G x) := by
  induction us with
  | nil => exact absurd hx List.not_mem_nil
  | cons u r ih =>
    by_cases e : F u = F x
    · have : u = x := inj u List.mem_cons_self x hx e
      subst this
      exact valV_pos rfl
    · rw [List.map_cons, valV_neg e]
      refine ih (fun a ha b hb => inj a (List.mem_cons_of_mem _ ha) b (List.mem_cons_of_mem _ hb)) ?_
      rcases List.mem_cons.mp hx with h | h
      · exact absurd (by rw [h]) e
      · exact h
theorem dc_range {lo : Int} {n : Nat} {g : TG} {tt : TT} {tk tv : TE} {vs : List Nat} {σ : L2.St} {H1 : Hp} {D : Addr} {Qd : Hp → Prop} (Pv : Nat → Hp → Prop) (h0 : Pv 0 (upd H1 D (.dK [])))
    (hs : ∀ i H, i < n → Pv i H → g (.int (lo + i)) (wipe σ vs) H fun σ2 H2 => wipe σ2 vs = wipe σ vs ∧ tt σ2 H2 fun b H3 =>
      if b = true then tk σ2 H3 fun y H4 => tv σ2 H4 fun z H5 => ∃ kvs k, y = kV k ∧ H5 D = some (.dK kvs) ∧ kvs.length < sizeLine ∧ Pv (i + 1) (upd H5 D (.dK (putK kvs k z))) else Pv (i + 1) H3) (hd : ∀ H, Pv n H → Qd H) :
    ∃ W : Nat → Nat → Hp → Prop, (∃ m, W 0 m (upd H1 D (.dK []))) ∧ ∀ i m H, W i m H →
      ((Itr lo n).stop i H ∧ Qd H) ∨ ((Itr lo n).go i H ∧ ∃ Nx : Hp → Prop, (∀ H', Nx H' → ∃ m', m' < m ∧ W (i + 1) m' H') ∧ ∀ x H', (Itr lo n).yld i H x H' → g x (wipe σ vs) H' fun σ2 H2 => wipe σ2 vs = wipe σ vs ∧ tt σ2 H2 fun b H3 =>
        if b = true then tk σ2 H3 fun y H4 => tv σ2 H4 fun z H5 => ∃ kvs k, y = kV k ∧ H5 D = some (.dK kvs) ∧ kvs.length < sizeLine ∧ Nx (upd H5 D (.dK (putK kvs k z))) else Nx H3) := by
  refine ⟨fun i m H => m = n - i ∧ i ≤ n ∧ Pv i H, ⟨n, by simp, Nat.zero_le _, h0⟩, ?_⟩
  rintro i m H ⟨rfl, hi, p⟩
  by_cases hlt : i < n
  · refine .inr ⟨hlt, Pv (i + 1), fun H' p' => ⟨n - (i + 1), by omega, rfl, hlt, p'⟩, fun x H' y => ?_⟩
    obtain ⟨e, y⟩ := y
    subst e y
    exact hs i _ hlt p
  · have e : i = n := by omega
    subst e
    exact .inl ⟨Nat.le_refl _, hd H p⟩
noncomputable def uls (f : List Nat) (n i : Nat) : List Nat := (List.range i).filter fun x => decide (n ≤ (pw f n n).getD x 0)
noncomputable def mkv (f : List Nat) (n i : Nat) : List (Key × V) := (uls f n i).map fun x => ((.inl (((pw f n n).getD x 0 : Nat) : Int) : Key), V.int (((pw f n (n + 1)).getD x 0 : Nat) : Int))
theorem uls_mem {f : List Nat} {n i x : Nat} : x ∈ uls f n i ↔ x < i ∧ n ≤ (pw f n n).getD x 0 := by
  unfold uls
  rw [List.mem_filter, List.mem_range, decide_eq_true_iff]
theorem uls_step (f : List Nat) (n i : Nat) : uls f n (i + 1) = uls f n i ++ if n ≤ (pw f n n).getD i 0 then [i] else [] := by
  unfold uls
  rw [List.range_succ, List.filter_append]
  congr 1
  by_cases c : n ≤ (pw f n n).getD i 0
  · rw [if_pos c, List.filter_cons_of_pos (by exact decide_eq_true c)]; rfl
  · rw [if_neg c, List.filter_cons_of_neg (by rw [decide_eq_true_iff]; exact c)]; rfl
def spMoves (K : PySem.W.Frag) : Sp := fun vs H Q _ => ∃ (a : Addr) (f : List Nat) (n : Nat), vs = [.ref a] ∧ Sq K H a (nv f) ∧ IsPair (2 * n) f ∧ 0 < n ∧ n ≤ 100 ∧
  ∀ (H' : Hp) (D : Addr), Same H H' → H D = none → H' D = some (.dK (mkv f n n)) → Q (.ref D) H'
theorem ok_p_moves_of_strands (T : Env K mg) : FnOk P w K mg base CX0 5 T.f_p_moves_of_strands T.d_p_moves_of_strands ["sheet"] (spMoves K) := by
  have G0 : FnOk P w K mg base CX0 1 T.f_p_people_of T.d_p_people_of ["sheet"] (spPeople K) := ok_p_people_of T
  have GF : FnOk P w K mg base CX0 3 T.f_p_followed T.d_p_followed ["one", "other"] (spFollowed K) := ok_p_followed T
  have GX : FnOk P w K mg base CX0 4 T.f_p_times T.d_p_times ["sheet", "many"] (spTimes K) := ok_p_times T
  refine T.F_p_moves_of_strands.ok sc_p_moves_of_strands (fun vs H Q E h => ?_) (fun cdv A outer s H vs Q E hr h => ?_)
  · obtain ⟨a, f, n, rfl, _⟩ := h
    rfl
  · obtain ⟨a, f, n, rfl, ha, hf, h0, hn, q⟩ := h
    have h1 := hr.mono (show 1 ≤ 4 by decide)
    have h3 := hr.mono (show 3 ≤ 4 by decide)
    refine ⟨_, pss_cons (ps_set (i := 1) sc_p_moves_of_strands.nd rfl (.inr rfl) (pe_call G0 h1 (by rfl) T.g_p_people_of T.F_p_people_of.kp T.b_p_people_of .nil pass0 (pa_cons (pv 0) pa_nil))) <|
      pss_cons (ps_set (i := 2) sc_p_moves_of_strands.nd rfl (.inr rfl) (pe_call GX hr (by rfl) T.g_p_times T.F_p_times.kp T.b_p_times .nil pass0 (pa_cons (pv 0) (pa_cons (pv 1) pa_nil)))) <|
      pss_cons (ps_set (i := 3) sc_p_moves_of_strands.nd rfl (.inr rfl) (pe_call GF h3 (by rfl) T.g_p_followed T.F_p_followed.kp T.b_p_followed .nil pass0 (pa_cons (pv 2) (pa_cons (pv 0) pa_nil)))) <|
      pss_one (ps_ret (pe_dc (own := [("x", 4)]) (g := gName 4) (tt := tTest (tOp (rI0 fun i j => .bl (decide (j ≤ i))) (tOp (rIxT K) (tVar 2) (tVar 4)) (tVar 1))) (tk := tOp (rIxT K) (tVar 2) (tVar 4)) (tv := tOp (rIxT K) (tVar 3) (tVar 4)) (by rfl) sc_p_moves_of_strands.nd (pi_range1 (by rfl) T.n_range (pa_cons (pv 1) pa_nil)) (blkOk_by (N := N_p_moves_of_strands) (sc := defScope s_p_moves_of_strands) (by decide +kernel))
          (fun _ _ _ _ _ => pg_name (i := 4) sc_p_moves_of_strands.nd rfl (.inl rfl)) (fun _ _ _ _ _ => pts_one (pt_cmpR op_ge (pe_ix ix_tup (pv 2) (pv 4) (fun _ _ => rfl)) (pv 1) (nomark _))) (fun _ _ _ _ _ => pe_ix ix_tup (pv 2) (pv 4) (fun _ _ => rfl)) (fun _ _ _ _ _ => pe_ix ix_tup (pv 3) (pv 4) (fun _ _ => rfl)))), ?_⟩
    refine ⟨.ref a, rfl, a, f, n, rfl, ha, hf.len, ?_⟩
    refine st_set [some (.ref a), some (.int (n : Nat)), none, none, none] ?_ rfl
    refine ⟨.ref a, rfl, _, rfl, a, f, n, n, rfl, ha, hf, h0, by omega, fun H1 t1 s1 n1 e1 => ?_⟩
    refine st_set [some (.ref a), some (.int (n : Nat)), some (.ref t1), none, none] ?_ rfl
    have pn := pw_pair h0 hf n
    have pm := pw_pair h0 hf (n + 1)
    refine ⟨_, rfl, _, rfl, t1, a, _, f, n, rfl, .inr (.inl (.inl e1)), sq_same s1 ha, pn, hf, by omega, fun H2 t2 s2 n2 e2 => ?_⟩
    replace e2 : H2 t2 = some (.tup (nv (pw f n (n + 1)))) := e2
    refine st_set [some (.ref a), some (.int (n : Nat)), some (.ref t1), some (.ref t2), none] ?_ rfl
    refine ⟨_, rfl, _, rfl, by omega, by omega, fun D nD => ?_⟩
    rw [show ((n : Nat) : Int).toNat = n from rfl]
    refine dc_range (n := n) (fun i H' => Same H2 H' ∧ H' D = some (.dK (mkv f n i))) ⟨same_new nD, upd_same⟩ (fun i H' hi h => ?_) (fun H' h => ?_)
    · obtain ⟨sm, eD⟩ := h
      have d1 := pn.d (show i < 2 * n by omega)
      have d2 := pm.d (show i < 2 * n by omega)
      have g1 : atI (nv (pw f n n)) ((0 : Int) + (i : Nat)) = some (.int ((pw f n n).getD i 0 : Nat)) := by rw [Int.zero_add]; exact nv_at d1.2.2.2
      have g2 : atI (nv (pw f n (n + 1))) ((0 : Int) + (i : Nat)) = some (.int ((pw f n (n + 1)).getD i 0 : Nat)) := by rw [Int.zero_add]; exact nv_at d2.2.2.2
      have h1' : SqT K H' t1 (nv (pw f n n)) := .inl (.inl (sm _ _ (s2 _ _ e1)))
      have h2' : SqT K H' t2 (nv (pw f n (n + 1))) := .inl (.inl (sm _ _ e2))
      refine ⟨rfl, _, rfl, _, rfl, t1, _, _, _, rfl, rfl, h1', g1, _, rfl, _, _, rfl, rfl, _, rfl, ?_⟩
      by_cases c : n ≤ (pw f n n).getD i 0
      · rw [decide_eq_true (show (n : Int) ≤ (((pw f n n).getD i 0 : Nat) : Int) by omega)]
        refine iteT ⟨_, rfl, _, rfl, t1, _, _, _, rfl, rfl, h1', g1, _, rfl, _, rfl, t2, _, _, _, rfl, rfl, h2', g2, _, (.inl (((pw f n n).getD i 0 : Nat) : Int) : Key), rfl, eD, ?_, fun y o hy => ?_, ?_⟩
        · unfold mkv; rw [List.length_map]; exact line_big (Nat.le_trans (Nat.le_trans (List.length_filter_le _ _) (by rw [List.length_range]; exact Nat.le_refl _)) (by omega : i ≤ 100000))
        · rw [upd_ne (ne_of_none hy nD)]; exact sm _ _ hy
        · have hno : valV (mkv f n i) (.inl (((pw f n n).getD i 0 : Nat) : Int) : Key) = none := valV_none fun p hp => by
            obtain ⟨x, hx, rfl⟩ := List.mem_map.mp hp
            intro e
            have e' : (((pw f n n).getD x 0 : Nat) : Int) = (((pw f n n).getD i 0 : Nat) : Int) := Sum.inl.inj e
            have hx' := (uls_mem.mp hx).1
            have := pn.inj (show x < 2 * n by omega) (show i < 2 * n by omega) (by omega)
            omega
          rw [upd_same, putK_new _ hno]
          unfold mkv
          rw [uls_step, if_pos c, List.map_append]; rfl
      · rw [decide_eq_false (show ¬ (n : Int) ≤ (((pw f n n).getD i 0 : Nat) : Int) by omega)]
        refine iteF ⟨sm, ?_⟩
        rw [eD]
        unfold mkv
        rw [uls_step, if_neg c, List.append_nil]
    · obtain ⟨sm, eD⟩ := h
      exact q H' D ((s1.trans s2).trans sm) ((s1.trans s2).free nD) eD
/-! ### the period of a sheet -/
theorem PerI.perm {g : Nat → Nat} {ds es : List Nat} {n M p : Nat} (h : PerI g ds n M p) (e : ∀ z, z ∈ ds ↔ z ∈ es) : PerI g es n M p :=
  ⟨h.pos, h.dv, fun q => by rw [← h.per q]; exact ⟨fun k z hz => k z ((e z).mp hz), fun k z hz => k z ((e z).mpr hz)⟩, h.few⟩
def spPeriod (K : PySem.W.Frag) : Sp := fun vs H Q _ => ∃ (a : Addr) (f : List Nat) (n : Nat), vs = [.ref a] ∧ Sq K H a (nv f) ∧ IsPair (2 * n) f ∧ 0 < n ∧ n ≤ 20 ∧
  ∀ (H' : Hp) (p : Nat), PerI (mvs f n) (lse (pw f n n) n) n (lcmTo n) p → Same H H' → Q (.int (p : Nat)) H'
theorem ok_p_period_of_sheet (T : Env K mg) : FnOk P w K mg base CX0 6 T.f_p_period_of_sheet T.d_p_period_of_sheet ["sheet"] (spPeriod K) := by
  have GC : FnOk P w K mg base CX0 1 T.f_p_common_multiple T.d_p_common_multiple ["one", "other"] spCommon := ok_p_common_multiple T
  have GM : FnOk P w K mg base CX0 5 T.f_p_moves_of_strands T.d_p_moves_of_strands ["sheet"] (spMoves K) := ok_p_moves_of_strands T
  refine T.F_p_period_of_sheet.ok sc_p_period_of_sheet (fun vs H Q E h => ?_) (fun cdv A outer s H vs Q E hr h => ?_)
  · obtain ⟨a, f, n, rfl, _⟩ := h
    rfl
  · obtain ⟨a, f, n, rfl, ha, hf, h0, hn, q⟩ := h
    have h1 := hr.mono (show 1 ≤ 5 by decide)
    refine ⟨_, pss_cons (ps_set (i := 1) sc_p_period_of_sheet.nd rfl (.inl rfl) (pe_call GM hr (by rfl) T.g_p_moves_of_strands T.F_p_moves_of_strands.kp T.b_p_moves_of_strands .nil pass0 (pa_cons (pv 0) pa_nil))) <|
      pss_cons (ps_set (i := 2) sc_p_period_of_sheet.nd rfl (.inl rfl) pe_int) <|
      pss_cons (ps_lock (ps_for PassesOwn.never rfl (pi_keys (pv 1)) (pg_name (i := 3) sc_p_period_of_sheet.nd rfl (.inl rfl))
        (pss_cons (ps_set (i := 4) sc_p_period_of_sheet.nd rfl (.inl rfl) pe_int) <|
        pss_cons (ps_set (i := 5) sc_p_period_of_sheet.nd rfl (.inl rfl) (pe_dget (units1 hr) (pv 1) (pv 3) (fun _ _ => rfl))) <|
        pss_cons (ps_while PassesOwn.never (pt_cmpR op_ne (pv 5) (pv 3) (nomark _))
          (pss_cons (ps_aug (i := 4) sc_p_period_of_sheet.nd rfl (.inl rfl) pe_int ip_add) <|
          pss_one (ps_set (i := 5) sc_p_period_of_sheet.nd rfl (.inl rfl) (pe_dget (units1 hr) (pv 1) (pv 5) (fun _ _ => rfl))))) <|
        pss_one (ps_set (i := 2) sc_p_period_of_sheet.nd rfl (.inl rfl) (pe_call GC h1 (by rfl) T.g_p_common_multiple T.F_p_common_multiple.kp T.b_p_common_multiple .nil pass0 (pa_cons (pv 2) (pa_cons (pv 4) pa_nil))))))) <|
      pss_one (ps_ret (pv 2)), ?_⟩
    have pn := pw_pair h0 hf n
    have cl := fun z hz => mvs_mem h0 hf (z := z) hz
    have inj := fun z hz y hy e => mvs_inj h0 hf (z := z) (y := y) hz hy e
    have Bn : (lse (pw f n n) n).length ≤ n := Nat.le_trans (List.length_filter_le _ _) (by rw [List.length_range]; exact Nat.le_refl _)
    refine ⟨.ref a, rfl, a, f, n, rfl, ha, hf, h0, by omega, fun H1 D s1 nD eD => ?_⟩
    refine st_set [some (.ref a), some (.ref D), none, none, none, none] ?_ rfl
    refine ⟨D, _, eD, trivial, fun od => ?_⟩
    have eL : upd H1 D (.frz od (.dK (mkv f n n))) D = some (.frz od (.dK (mkv f n n))) := upd_same
    have back : upd (upd H1 D (.frz od (.dK (mkv f n n)))) D (.dK (mkv f n n)) = H1 := by
      funext b
      by_cases e : b = D
      · rw [e, upd_same, eD]
      · rw [upd_ne e, upd_ne e]
    revert eL back; generalize upd H1 D (.frz od (.dK (mkv f n n))) = HL; intro eL back
    have get : ∀ z, z ∈ lse (pw f n n) n → DGet HL D (.int ((n + z : Nat) : Int)) (some (.int ((n + mvs f n z : Nat) : Int))) := fun z hz => by
      obtain ⟨b1, b2, b3⟩ := lse_back h0 hf 0 hz
      rw [show pw f n (n + 0) = pw f n n from rfl] at b2 b3
      have hst := mvs_step h0 hf 0 b2 (by rw [b3]; omega)
      rw [show pw f n (n + 0) = pw f n n from rfl, show n + 0 + 1 = n + 1 from rfl, b3, show n + z - n = z by omega] at hst
      have e := valV_of (us := uls f n n) (F := fun x => (.inl (((pw f n n).getD x 0 : Nat) : Int) : Key)) (G := fun x => V.int (((pw f n (n + 1)).getD x 0 : Nat) : Int)) (fun x hx y hy e => by
        have e' : (((pw f n n).getD x 0 : Nat) : Int) = (((pw f n n).getD y 0 : Nat) : Int) := Sum.inl.inj e
        have hx' := (uls_mem.mp hx).1
        have hy' := (uls_mem.mp hy).1
        exact pn.inj (show x < 2 * n by omega) (show y < 2 * n by omega) (by omega)) (x := (pw f n n).getD (n + z) 0) (uls_mem.mpr ⟨b2, by rw [b3]; omega⟩)
      rw [b3, hst] at e
      exact .inl ⟨mkv f n n, (.inl ((n + z : Nat) : Int) : Key), .inr ⟨od, eL⟩, rfl, e.symm⟩
    refine ⟨_, rfl, D, od, rfl, .inl ⟨mkv f n n, eL, ?_⟩⟩
    refine for_it walk_keys (fun i σ H' => H' = HL ∧ ∃ (p : Nat) (y3 y4 y5 : Option V), σ = [some (.ref a), some (.ref D), some (.int (p : Nat)), y3, y4, y5] ∧ PerI (mvs f n) (((uls f n n).take i).map fun x => (pw f n n).getD x 0 - n) n (lcmTo n) p) ⟨rfl, 1, none, none, none, rfl, .nil⟩ (fun i σ H' _ h => by rw [h.1]; exact eL) (fun i x σ H' H'' hi h y => ?_) (fun σ H' h => ?_)
    · obtain ⟨rfl, p, y3, y4, y5, rfl, hP⟩ := h
      obtain ⟨rfl, k, v, ek, rfl⟩ := y
      unfold mkv at ek
      rw [List.getElem?_map] at ek
      obtain ⟨u, hu, ek⟩ := Option.map_eq_some_iff.mp ek
      obtain ⟨rfl, rfl⟩ := Prod.mk.inj ek
      have hum := uls_mem.mp (List.mem_of_getElem? hu)
      obtain ⟨z, ez⟩ : ∃ z, z = (pw f n n).getD u 0 - n := ⟨_, rfl⟩
      have hz : z ∈ lse (pw f n n) n := by rw [ez]; exact up_mem h0 hf 0 hum.1 hum.2
      have ekz : (((pw f n n).getD u 0 : Nat) : Int) = ((n + z : Nat) : Int) := by omega
      refine st_set [some (.ref a), some (.ref D), some (.int (p : Nat)), some (.int ((n + z : Nat) : Int)), y4, y5] ?_ (by rw [← ekz]; rfl)
      refine ⟨_, rfl, _, rfl, D, _, rfl, get z hz, ?_⟩
      refine st_set [some (.ref a), some (.ref D), some (.int (p : Nat)), some (.int ((n + z : Nat) : Int)), some (.int (1 : Nat)), some (.int ((n + mvs f n z : Nat) : Int))] ?_ rfl
      obtain ⟨m0, c1, c2, c3⟩ := cyc_ex cl inj hz
      refine ⟨fun m σ H2 => ∃ L : Nat, m = n - L ∧ 1 ≤ L ∧ L ≤ n ∧ H2 = H'' ∧ σ = [some (.ref a), some (.ref D), some (.int (p : Nat)), some (.int ((n + z : Nat) : Int)), some (.int (L : Nat)), some (.int ((n + itn (mvs f n) L z : Nat) : Int))] ∧ ∀ m, 1 ≤ m → m < L → itn (mvs f n) m z ≠ z,
        ⟨n - 1, 1, rfl, Nat.le_refl _, h0, rfl, rfl, fun m h1 h2 => by omega⟩, fun m σ H2 hW => ?_⟩
      obtain ⟨L, rfl, hL1, hLn, rfl, rfl, hL⟩ := hW
      refine ⟨_, rfl, _, rfl, rfl, _, rfl, ite2 (fun c => ?_) (fun c => ?_)⟩
      · have hne : itn (mvs f n) L z ≠ z := fun e => by rw [e, decide_eq_true rfl] at c; exact absurd c (by decide)
        have hlt : L < n := by
          rcases Nat.lt_or_ge L n with d | d
          · exact d
          · rcases Nat.lt_or_ge m0 L with d2 | d2
            · exact absurd c3 (hL m0 c1 d2)
            · exact absurd (by rw [show L = m0 by omega]; exact c3) hne
        refine ⟨fun σ' H3 => H3 = H2 ∧ σ' = [some (.ref a), some (.ref D), some (.int (p : Nat)), some (.int ((n + z : Nat) : Int)), some (.int ((L + 1 : Nat) : Int)), some (.int ((n + itn (mvs f n) (L + 1) z : Nat) : Int))], fun σ' H3 h3 => ⟨n - (L + 1), by omega, L + 1, rfl, by omega, hlt, h3.1, h3.2, fun m h1 h2 => ?_⟩, ?_⟩
        · rcases Nat.lt_or_ge m L with d | d
          · exact hL m h1 d
          · rw [show m = L by omega]; exact hne
        · refine ⟨_, rfl, _, _, rfl, rfl, ?_⟩
          refine st_eq [some (.ref a), some (.ref D), some (.int (p : Nat)), some (.int ((n + z : Nat) : Int)), some (.int ((L + 1 : Nat) : Int)), some (.int ((n + itn (mvs f n) L z : Nat) : Int))] ?_ rfl
          exact ⟨_, rfl, _, rfl, D, _, rfl, get _ (it_mem cl hz L), rfl, rfl⟩
      · have he : itn (mvs f n) L z = z := by
          by_cases d : itn (mvs f n) L z = z
          · exact d
          · exact absurd (by rw [decide_eq_false (fun e => d (by have := V.int.inj e; omega))]; rfl) c
        refine ⟨_, rfl, _, rfl, p, L, rfl, hP.pos, hL1, ?_, by omega, ?_⟩
        · exact Nat.le_trans (hP.le hn) (by decide)
        refine ⟨rfl, Nat.lcm p L, _, _, _, rfl, ?_⟩
        rw [List.take_add_one, hu, List.map_append]
        exact hP.step (by show IsLen (mvs f n) ((pw f n n).getD u 0 - n) L; rw [← ez]; exact ⟨hL1, he, hL⟩) hLn (len_dv hn hLn hL1)
    · obtain ⟨rfl, p, y3, y4, y5, rfl, hP⟩ := h
      refine ⟨eL, ?_⟩
      rw [back]
      refine ⟨_, rfl, q _ p (hP.perm fun z => ?_) s1⟩
      have hl : (mkv f n n).length = (uls f n n).length := by unfold mkv; rw [List.length_map]
      rw [hl, List.take_length, List.mem_map]
      constructor
      · rintro ⟨x, hx, rfl⟩
        have hum := uls_mem.mp hx
        exact up_mem h0 hf 0 hum.1 hum.2
      · intro hz
        obtain ⟨b1, b2, b3⟩ := lse_back h0 hf 0 hz
        rw [show pw f n (n + 0) = pw f n n from rfl] at b2 b3
        exact ⟨_, uls_mem.mpr ⟨b2, by rw [b3]; omega⟩, by rw [b3]; omega⟩
end
end Pc
namespace Pc
open PySem PySem.Spec PyProof.Rows L2 RZ
section
variable {P : Program} {w : World} {K : PySem.W.Frag} {mg : Str → Option Value} {base : Heap}
/-! ### when pairings recur -/
def spSettles (K : PySem.W.Frag) : Sp := fun vs H Q _ => ∃ (a wd : Addr) (ps : List Nat) (n : Nat) (us : List V) (qs : List (Nat × Nat)), vs = [.ref a, .ref wd] ∧ Sq K H a (nv ps) ∧ IsPair n ps ∧ 0 < n ∧ n ≤ 20 ∧ Sq K H wd us ∧ Items K H us qs ∧ Calls n qs ∧
  ∀ (H' : Hp) (t : Addr) (b q p : Nat), Stl (shw n qs (emp n)) n (rns qs ps) b q p → Same H H' → H t = none → H' t = some (.tup [.int (b : Nat), .int (q : Nat)]) → Q (.ref t) H'
theorem ok_p_settles (T : Env K mg) : FnOk P w K mg base CX0 7 T.f_p_settles T.d_p_settles ["pairing", "word"] (spSettles K) := by
  have GS : FnOk P w K mg base CX0 5 T.f_p_sheet_of T.d_p_sheet_of ["size", "word"] (spPSheetOf K) := ok_p_sheet_of T
  have GP : FnOk P w K mg base CX0 6 T.f_p_period_of_sheet T.d_p_period_of_sheet ["sheet"] (spPeriod K) := ok_p_period_of_sheet T
  have GX : FnOk P w K mg base CX0 4 T.f_p_times T.d_p_times ["sheet", "many"] (spTimes K) := ok_p_times T
  have GR : FnOk P w K mg base CX0 3 T.f_p_result T.d_p_result ["sheet", "pairing"] (spResult K) := ok_p_result T
  refine T.F_p_settles.ok sc_p_settles (fun vs H Q E h => ?_) (fun cdv A outer s H vs Q E hr h => ?_)
  · obtain ⟨a, wd, ps, n, us, qs, rfl, _⟩ := h
    rfl
  · obtain ⟨a, wd, ps, n, us, qs, rfl, ha, hp, h0, hn, hw, hI, hc, q⟩ := h
    have h3 := hr.mono (show 3 ≤ 6 by decide)
    have h4 := hr.mono (show 4 ≤ 6 by decide)
    have h5 := hr.mono (show 5 ≤ 6 by decide)
    refine ⟨_, pss_cons (ps_set (i := 2) sc_p_settles.nd rfl (.inl rfl) (pe_call GS h5 (by rfl) T.g_p_sheet_of T.F_p_sheet_of.kp T.b_p_sheet_of .nil pass0 (pa_cons (pe_callB call_len_seq (by rfl) T.n_len PySem.boot_len (pa_cons (pv 0) pa_nil)) (pa_cons (pv 1) pa_nil)))) <|
      pss_cons (ps_set (i := 3) sc_p_settles.nd rfl (.inl rfl) (pe_call GP hr (by rfl) T.g_p_period_of_sheet T.F_p_period_of_sheet.kp T.b_p_period_of_sheet .nil pass0 (pa_cons (pv 2) pa_nil))) <|
      pss_cons (ps_set (i := 4) sc_p_settles.nd rfl (.inl rfl) (pe_call GX h4 (by rfl) T.g_p_times T.F_p_times.kp T.b_p_times .nil pass0 (pa_cons (pv 2) (pa_cons (pv 3) pa_nil)))) <|
      pss_cons (ps_set (i := 5) sc_p_settles.nd rfl (.inl rfl) (pe_callTy call_tuple_of (by rfl) T.n_tuple (by decide +kernel) (pa_cons (pv 0) pa_nil))) <|
      pss_cons (ps_set (i := 6) sc_p_settles.nd rfl (.inl rfl) pe_int) <|
      pss_cons (ps_while PassesOwn.never (pt_cmpR (op_neD hr.units) (pe_call GR h3 (by rfl) T.g_p_result T.F_p_result.kp T.b_p_result .nil pass0 (pa_cons (pv 4) (pa_cons (pv 5) pa_nil))) (pv 5) (nomark _))
        (pss_cons (ps_set (i := 5) sc_p_settles.nd rfl (.inl rfl) (pe_call GR h3 (by rfl) T.g_p_result T.F_p_result.kp T.b_p_result .nil pass0 (pa_cons (pv 2) (pa_cons (pv 5) pa_nil)))) <|
        pss_one (ps_aug (i := 6) sc_p_settles.nd rfl (.inl rfl) pe_int ip_add))) <|
      pss_cons (ps_for PassesOwn.never rfl (pi_range2 (by rfl) T.n_range (pa_cons pe_int (pa_cons (pe_op op_add (pe_callB call_len_seq (by rfl) T.n_len PySem.boot_len (pa_cons (pv 0) pa_nil)) pe_int) pa_nil))) (pg_name (i := 7) sc_p_settles.nd rfl (.inl rfl))
        (pss_one (ps_while PassesOwn.never (PW.pt (pw_and (pt_cmpR op_eq (pe_op op_mod (pv 3) (pv 7)) pe_int (nomark _)) (pw_and1 (pt_cmpR (op_eqD hr.units) (pe_call GR h3 (by rfl) T.g_p_result T.F_p_result.kp T.b_p_result .nil pass0 (pa_cons (pe_call GX h4 (by rfl) T.g_p_times T.F_p_times.kp T.b_p_times .nil pass0 (pa_cons (pv 2) (pa_cons (pe_op op_fdiv (pv 3) (pv 7)) pa_nil))) (pa_cons (pv 5) pa_nil))) (pv 5) (nomark _)))))
          (pss_one (ps_aug (i := 3) sc_p_settles.nd rfl (.inl rfl) (pv 7) ip_half))))) <|
      pss_one (ps_ret (pe_tup (pa_cons (pv 6) (pa_cons (pv 3) pa_nil)))), ?_⟩
    obtain ⟨f, hfe⟩ : ∃ f, f = shw n qs (emp n) := ⟨_, rfl⟩
    have hf : IsPair (2 * n) f := by rw [hfe]; exact shw_pair (emp_pair h0) hc
    have px := rns_pair hp hc
    have hF : ∀ k, rns qs ps (k + 1) = runs qs (rns qs ps k) := fun _ => rfl
    have rdf : ∀ k, rd f (rns qs ps k) n = rns qs ps (k + 1) := fun k => by rw [hfe, rd_word h0 (px k) hc]; rfl
    have rdp : ∀ j k, rd (pw f n j) (rns qs ps k) n = rns qs ps (k + j) := fun j k => by
      rw [rns_rd h0 hp hc k, rns_rd h0 hp hc (k + j), ← hfe, ← pw_add h0 hf k j, rd_fol (pw_pair h0 hf k) (pw_pair h0 hf j) hp]
    refine ⟨.ref a, rfl, a, _, rfl, ha, ?_⟩
    rw [show ((nv ps).length : Int) = (n : Nat) by rw [nv_length, hp.len]]
    refine ⟨.ref wd, rfl, n, wd, us, qs, rfl, hw, hI, hc, h0, by omega, fun H1 t1 s1 n1 e1 => ?_⟩
    rw [← hfe] at e1
    refine st_set [some (.ref a), some (.ref wd), some (.ref t1), none, none, none, none, none] ?_ rfl
    refine ⟨_, rfl, t1, f, n, rfl, .inr (.inl (.inl e1)), hf, h0, hn, fun H2 p hP s2 => ?_⟩
    refine st_set [some (.ref a), some (.ref wd), some (.ref t1), some (.int (p : Nat)), none, none, none, none] ?_ rfl
    replace e1 := s2 _ _ e1
    have hpM : p ≤ 232792560 := hP.le hn
    refine ⟨_, rfl, _, rfl, t1, f, n, p, rfl, .inr (.inl (.inl e1)), hf, h0, by omega, fun H3 t3 s3 n3 e3 => ?_⟩
    refine st_set [some (.ref a), some (.ref wd), some (.ref t1), some (.int (p : Nat)), some (.ref t3), none, none, none] ?_ rfl
    replace e1 := s3 _ _ e1
    have s13 := (s1.trans s2).trans s3
    have ha3 : Sq K H3 a (nv ps) := ha.same s13
    have pf := pw_pair h0 hf p
    have sh1 : ∀ k, PySem.SeqAt.shaped (td (rns qs ps k)) = true := fun k => sh_td _
    refine ⟨.ref a, rfl, a, nv ps, rfl, ?_⟩
    rcases ha3 with hl | ht
    case' inl =>
      refine .inl ⟨hl, fun pr npr => ?_⟩
      have s4 : Same H3 (upd H3 pr (.tup (nv ps))) := same_new npr
      have epr : SqT K (upd H3 pr (.tup (nv ps))) pr (nv ps) := .inl (.inl upd_same)
      revert s4 epr
      generalize upd H3 pr (.tup (nv ps)) = H4
      intro s4 epr
    case' inr =>
      refine .inr ⟨ht, ?_⟩
      obtain ⟨H4, e4⟩ : ∃ H4, H4 = H3 := ⟨H3, rfl⟩
      have s4 : Same H3 H4 := by rw [e4]; exact Same.refl _
      have epr : SqT K H4 a (nv ps) := by rw [e4]; exact ht
      rw [← e4]
      clear e4
    all_goals
      refine ⟨fun m σ H' => ∃ (k : Nat) (y0 : V) (pr : Addr), m = n - k ∧ k ≤ n ∧ y0 = .ref a ∧ σ = [some y0, some (.ref wd), some (.ref t1), some (.int (p : Nat)), some (.ref t3), some (.ref pr), some (.int (k : Nat)), none] ∧ Same H3 H' ∧ SqT K H' pr (nv (rns qs ps k)) ∧ ∀ c, c < k → rns qs ps (c + p) ≠ rns qs ps c,
        ⟨n - 0, 0, .ref a, _, rfl, Nat.zero_le _, rfl, rfl, s4, epr, fun c hc => absurd hc (Nat.not_lt_zero _)⟩, fun m σ H' hW => ?_⟩
      obtain ⟨k, y0, pr, rfl, hkn, rfl, rfl, sm, ep, hfst⟩ := hW
      refine ⟨_, rfl, _, rfl, t3, pr, pw f n p, rns qs ps k, n, rfl, .inr (.inl (.inl (sm _ _ e3))), .inr ep, pf, px k, by omega, fun H5 t5 s5 n5 e5 => ?_⟩
      rw [rdp] at e5
      refine ⟨_, rfl, td (rns qs ps (k + p)), td (rns qs ps k), .tup (.inl (.inl e5)) (dp_nats _), .tup (same_tup s5 ep) (dp_nats _), sh_td _, sh_td _, _, rfl, ite2 (fun c => ?_) (fun c => ?_)⟩
      · have hne : rns qs ps (k + p) ≠ rns qs ps k := fun e => by
          rw [eqv_td, e, decide_eq_true rfl] at c; exact absurd c (by decide)
        have hlt : k < n := by
          rcases Nat.lt_or_ge k n with d | d
          · exact d
          · refine absurd ?_ hne
            rw [rns_rd h0 hp hc (k + p), rns_rd h0 hp hc k, ← hfe, show k = n + (k - n) by omega, (pw_per h0 hf hP (k - n) p).mpr (Nat.dvd_refl _)]
        refine ⟨fun σ' H6 => ∃ pr : Addr, σ' = [some (.ref a), some (.ref wd), some (.ref t1), some (.int (p : Nat)), some (.ref t3), some (.ref pr), some (.int ((k + 1 : Nat) : Int)), none] ∧ Same H3 H6 ∧ SqT K H6 pr (nv (rns qs ps (k + 1))), fun σ' H6 h6 => ?_, ?_⟩
        · obtain ⟨pr', r1, r2, r3⟩ := h6
          refine ⟨n - (k + 1), by omega, k + 1, .ref a, pr', rfl, hlt, rfl, r1, r2, r3, fun c hc => ?_⟩
          rcases Nat.lt_or_ge c k with d | d
          · exact hfst c d
          · rw [show c = k by omega]; exact hne
        · refine ⟨_, rfl, _, rfl, t1, pr, f, rns qs ps k, n, rfl, .inr (.inl (.inl (s5 _ _ (sm _ _ e1)))), .inr (same_tup s5 ep), hf, px k, by omega, fun H6 t6 s6 n6 e6 => ?_⟩
          rw [rdf] at e6
          refine st_set [some (.ref a), some (.ref wd), some (.ref t1), some (.int (p : Nat)), some (.ref t3), some (.ref t6), some (.int (k : Nat)), none] ?_ rfl
          exact ⟨_, rfl, _, _, rfl, rfl, t6, rfl, (sm.trans s5).trans s6, .inl (.inl e6)⟩
      · have heq : rns qs ps (k + p) = rns qs ps k := by
          by_cases d : rns qs ps (k + p) = rns qs ps k
          · exact d
          · exact absurd (by rw [eqv_td, decide_eq_false d]; rfl) c
        have sm5 := sm.trans s5
        have ep5 := same_tup s5 ep
        clear ep sm e5 c
        refine ⟨_, rfl, a, _, rfl, (ha.same s13).same sm5, ?_⟩
        rw [show ((nv ps).length : Int) = (n : Nat) by rw [nv_length, hp.len]]
        refine ⟨_, _, rfl, rfl, 2, (n : Int) + 1, rfl, ⟨by decide, by decide, by omega, by omega⟩, ?_⟩
        rw [show ((n : Int) + 1 - 2).toNat = n - 1 by omega]
        refine for_range (n := n - 1) (fun i σ H' => Same H5 H' ∧ ∃ (g : Nat) (y7 : Option V), σ = [some (.ref a), some (.ref wd), some (.ref t1), some (.int (g : Nat)), some (.ref t3), some (.ref pr), some (.int (k : Nat)), y7] ∧ 1 ≤ g ∧ g ∣ p ∧ rns qs ps (k + g) = rns qs ps k ∧ ∀ e, 2 ≤ e → e < 2 + i → e ∣ g → rns qs ps (k + g / e) ≠ rns qs ps k)
          ⟨Same.refl _, p, _, rfl, hP.pos, Nat.dvd_refl _, heq, fun e h1 h2 => by omega⟩ (fun i σ H' hi h => ?_) (fun σ H' h => ?_)
        · obtain ⟨sg, g, y7, rfl, hg1, hgp, hgr, hgm⟩ := h
          refine st_set [some (.ref a), some (.ref wd), some (.ref t1), some (.int (g : Nat)), some (.ref t3), some (.ref pr), some (.int (k : Nat)), some (.int ((2 + i : Nat) : Int))] ?_ rfl
          refine ⟨fun m σ H6 => ∃ g : Nat, m = g ∧ Same H5 H6 ∧ σ = [some (.ref a), some (.ref wd), some (.ref t1), some (.int (g : Nat)), some (.ref t3), some (.ref pr), some (.int (k : Nat)), some (.int ((2 + i : Nat) : Int))] ∧ 1 ≤ g ∧ g ∣ p ∧ rns qs ps (k + g) = rns qs ps k ∧ ∀ e, 2 ≤ e → e < 2 + i → e ∣ g → rns qs ps (k + g / e) ≠ rns qs ps k,
            ⟨g, g, rfl, sg, rfl, hg1, hgp, hgr, hgm⟩, fun m σ H6 hW => ?_⟩
          clear hg1 hgp hgr hgm sg
          obtain ⟨g, rfl, sg, rfl, hg1, hgp, hgr, hgm⟩ := hW
          have hgle : m ≤ 232792560 := Nat.le_trans (Nat.le_of_dvd hP.pos hgp) hpM
          refine ⟨_, rfl, _, rfl, _, _, rfl, rfl, (show (0 : Int) < ((2 + i : Nat) : Int) by omega), rfl, _, rfl, ite2 (fun c => ?_) (fun c => ?_)⟩
          · have hd : (2 + i) ∣ m := by
              have := V.int.inj (of_decide_eq_true c)
              exact Nat.dvd_of_mod_eq_zero (by omega)
            obtain ⟨r, hr0⟩ := hd
            have hdiv : m / (2 + i) = r := by rw [hr0, Nat.mul_div_cancel_left _ (by omega)]
            refine ⟨_, rfl, _, rfl, _, rfl, _, _, rfl, rfl, ⟨by omega, by omega⟩, t1, f, n, r, ?_, .inr (.inl (.inl (sg _ _ (sm5 _ _ e1)))), hf, h0, by omega, fun H7 t7 s7 n7 e7 => ?_⟩
            · rw [show (fun i j => V.int (i / j)) (m : Int) ((2 + i : Nat) : Int) = V.int ((r : Nat) : Int) from congrArg V.int (by rw [← hdiv, Int.natCast_ediv])]; rfl
            refine ⟨_, rfl, t7, pr, pw f n r, rns qs ps k, n, rfl, .inr (.inl (.inl e7)), .inr (same_tup (sg.trans s7) ep5), pw_pair h0 hf r, px k, by omega, fun H8 t8 s8 n8 e8 => ?_⟩
            rw [rdp] at e8
            refine ⟨_, rfl, td (rns qs ps (k + r)), td (rns qs ps k), .tup (.inl (.inl e8)) (dp_nats _), .tup (same_tup ((sg.trans s7).trans s8) ep5) (dp_nats _), sh_td _, sh_td _, _, rfl, ite2 (fun c2 => ?_) (fun c2 => ?_)⟩
            · have he : rns qs ps (k + r) = rns qs ps k := by rw [eqv_td] at c2; exact of_decide_eq_true c2
              have hr1 : 1 ≤ r := by
                rcases Nat.eq_zero_or_pos r with z | z
                · rw [z, Nat.mul_zero] at hr0; omega
                · exact z
              have hlt : r < m := by
                have : 2 * r ≤ (2 + i) * r := Nat.mul_le_mul_right _ (by omega)
                omega
              refine ⟨fun σ' H9 => Same H5 H9 ∧ σ' = [some (.ref a), some (.ref wd), some (.ref t1), some (.int (r : Nat)), some (.ref t3), some (.ref pr), some (.int (k : Nat)), some (.int ((2 + i : Nat) : Int))], fun σ' H9 h9 => ⟨r, hlt, r, rfl, h9.1, h9.2, hr1, Nat.dvd_trans ⟨2 + i, by rw [hr0, Nat.mul_comm]⟩ hgp, he, fun e h1 h2 h3 h4 => ?_⟩, ?_⟩
              · obtain ⟨u, hu⟩ := h3
                have e5 : m / e = (2 + i) * u := by rw [hr0, hu, ← Nat.mul_assoc, Nat.mul_comm (2 + i) e, Nat.mul_assoc, Nat.mul_div_cancel_left _ (by omega)]
                have e6 : r / e = u := by rw [hu, Nat.mul_div_cancel_left _ (by omega)]
                rw [e6] at h4
                refine hgm e h1 h2 ⟨(2 + i) * u, by rw [hr0, hu, ← Nat.mul_assoc, Nat.mul_comm (2 + i) e, Nat.mul_assoc]⟩ ?_
                rw [e5]; exact rep_mul hF h4 (2 + i)
              · refine ⟨_, rfl, _, rfl, _, _, rfl, rfl, ⟨by omega, by omega⟩, (sg.trans s7).trans s8, ?_⟩
                rw [show ((m : Int) / ((2 + i : Nat) : Int)) = ((r : Nat) : Int) by rw [← hdiv, Int.natCast_ediv]]; rfl
            · have hne : rns qs ps (k + r) ≠ rns qs ps k := fun e => c2 (by rw [eqv_td]; exact decide_eq_true e)
              refine ⟨(sg.trans s7).trans s8, m, _, rfl, hg1, hgp, hgr, fun e h1 h2 h3 => ?_⟩
              rcases Nat.lt_or_ge e (2 + i) with d | d
              · exact hgm e h1 d h3
              · rw [show e = 2 + i by omega, hdiv]; exact hne
          · refine ⟨sg, m, _, rfl, hg1, hgp, hgr, fun e h1 h2 h3 => ?_⟩
            rcases Nat.lt_or_ge e (2 + i) with d | d
            · exact hgm e h1 d h3
            · have hee : e = 2 + i := by omega
              rw [hee] at h3
              have := Nat.mod_eq_zero_of_dvd h3
              exact absurd (decide_eq_true (congrArg V.int (show (m : Int) % ((2 + i : Nat) : Int) = 0 by omega))) c
        · obtain ⟨sg, g, y7, rfl, hg1, hgp, hgr, hgm⟩ := h
          refine ⟨_, rfl, _, rfl, by show 2 ≤ sizeLine; decide, fun t nt => ?_⟩
          have sA := (s13.trans sm5).trans sg
          refine q _ t k g p ?_ (sA.trans (same_new nt)) (sA.free nt) upd_same
          rw [← hfe]
          exact ⟨hP, hg1, hgp, hgr, hfst, fun e h1 h2 h3 => hgm e h1 (by omega) h3⟩
end
end Pc
namespace Pc
/-! ### who becomes a couple by repetition, and how soon -/
theorem ends_rd {g f X : List Nat} {n : Nat} (hX : ∀ a, a < n → n ≤ g.getD (n + a) 0 → X.getD a 0 = g.getD (n + a) 0 - n) {s : Bool × Nat} {y : Nat} (w : Ends (cstep g f n n) s y) : n ≤ y → (s.1 = true → n ≤ s.2 ∧ s.2 < 2 * n) →
    Ends (cstep X f 0 n) (s.1, if s.1 = true then s.2 - n else s.2) (y - n) := by
  induction w with
  | @stop s y e =>
    intro hy hs
    obtain ⟨t, z⟩ := s
    cases t with
    | false =>
      by_cases c : f.getD z 0 < n
      · rw [cs_fl c] at e; cases e
      · rw [cs_fg (by omega)] at e
        have ey := Sum.inr.inj e
        exact .stop (by show cstep X f 0 n (false, z) = _; rw [cs_fg (by omega)]; exact congrArg _ (by omega))
    | true =>
      by_cases c : g.getD z 0 < n
      · rw [cs_tl c] at e
        have ey := Sum.inr.inj e
        omega
      · rw [cs_tg (by omega)] at e; cases e
  | @go s t y e _ ih =>
    intro hy hs
    obtain ⟨u, z⟩ := s
    cases u with
    | false =>
      by_cases c : f.getD z 0 < n
      · rw [cs_fl c] at e
        have et := Sum.inl.inj e
        subst et
        have i := ih hy fun _ => ⟨by show n ≤ n + _; omega, by show n + _ < 2 * n; omega⟩
        refine .go (t := (true, 0 + f.getD z 0)) (cs_fl c) ?_
        have i' : Ends (cstep X f 0 n) (true, n + f.getD z 0 - n) (y - n) := i
        rw [show n + f.getD z 0 - n = 0 + f.getD z 0 by omega] at i'
        exact i'
      · rw [cs_fg (by omega)] at e; cases e
    | true =>
      obtain ⟨h1, h2⟩ := hs rfl
      replace h1 : n ≤ z := h1
      replace h2 : z < 2 * n := h2
      by_cases c : g.getD z 0 < n
      · rw [cs_tl c] at e; cases e
      · rw [cs_tg (by omega)] at e
        have et := Sum.inl.inj e
        subst et
        have i := ih hy fun q => absurd q Bool.false_ne_true
        have ez := hX (z - n) (by omega) (by rw [show n + (z - n) = z by omega]; omega)
        rw [show n + (z - n) = z by omega] at ez
        refine .go (t := (false, X.getD (z - n) 0 - 0)) (cs_tg (Nat.zero_le _)) ?_
        rw [ez]; exact i
section
variable {f ps : List Nat} {n : Nat} (hn : 0 < n) (hf : IsPair (2 * n) f) (hp : IsPair n ps)
include hn hf hp
theorem xs_step (k : Nat) : rd (pw f n (k + 1)) ps n = rd f (rd (pw f n k) ps n) n := rd_fol (pw_pair hn hf k) hf hp
theorem xs_low (j : Nat) {a : Nat} (ha : a < n) (h : n ≤ (pw f n n).getD (n + a) 0) : (rd (pw f n (n + j)) ps n).getD a 0 = (pw f n n).getD (n + a) 0 - n := by
  have e := slo_n hn hf j a ha (.inl h)
  have t : Trail (pw f n (n + j)) ps n (n + a) [n + a, (pw f n (n + j)).getD (n + a) 0] := .stop (by rw [← e]; exact h)
  rw [getD_of (rd_get _ _ ha), far_is t, e]; rfl
theorem xs_in (j : Nat) {w : Nat} (hw : w ∈ lse (pw f n n) n) : (rd (pw f n (n + j)) ps n).getD w 0 ∈ lse (pw f n n) n := by
  have px := rd_pair (pw_pair hn hf (n + j)) hp
  obtain ⟨h1, h2⟩ := (lse_mem hn hf).mp hw
  have d := px.d h1
  refine (lse_mem hn hf).mpr ⟨d.1, ?_⟩
  rcases Nat.lt_or_ge ((pw f n n).getD (n + (rd (pw f n (n + j)) ps n).getD w 0) 0) n with c | c
  · exact c
  · have e := xs_low hn hf hp j d.1 c
    rw [d.2.2.1] at e
    have b := (pw_pair hn hf n).d (show n + (rd (pw f n (n + j)) ps n).getD w 0 < 2 * n by omega)
    have e2 : (pw f n n).getD (n + (rd (pw f n (n + j)) ps n).getD w 0) 0 = n + w := by omega
    rw [e2] at b
    omega
theorem xs_move (j : Nat) {w : Nat} (hw : w ∈ lse (pw f n n) n) : (rd (pw f n (n + j + 1)) ps n).getD (mvs f n w) 0 = mvs f n ((rd (pw f n (n + j)) ps n).getD w 0) := by
  have px := rd_pair (pw_pair hn hf (n + j)) hp
  have hz := xs_in hn hf hp j hw
  rw [xs_step hn hf hp]
  obtain ⟨X, hXe⟩ : ∃ X, X = rd (pw f n (n + j)) ps n := ⟨_, rfl⟩
  have hX : ∀ a, a < n → n ≤ (pw f n n).getD (n + a) 0 → X.getD a 0 = (pw f n n).getD (n + a) 0 - n := fun a ha h => by rw [hXe]; exact xs_low hn hf hp j ha h
  rw [← hXe] at px hz ⊢
  -- the walks down from w and from its partner
  have down : ∀ {u}, u ∈ lse (pw f n n) n → Ends (cstep X f 0 n) (false, u) (mvs f n u) := fun {u} hu => by
    obtain ⟨b1, b2, b3⟩ := lse_back hn hf 0 hu
    rw [show pw f n (n + 0) = pw f n n from rfl] at b2 b3
    have v := fol_up_ends (pw_pair hn hf n) hf b2 (by rw [b3]; omega)
    rw [b3, show n + u - n = u by omega] at v
    have g := (up_n hn hf 1 b2).mpr (by rw [b3]; omega)
    exact ends_rd hX v g fun q => absurd q Bool.false_ne_true
  have hwn := ((lse_mem hn hf).mp hw).1
  have hm := ((lse_mem hn hf).mp (mvs_mem hn hf hw)).1
  have df := hf.d (show w < 2 * n by omega)
  have hX0 : IsPair (0 + n) X := by rw [Nat.zero_add]; exact px
  have e1 : Ends (cstep X f 0 n) (opp X f (false, w)) (mvs f n (X.getD w 0)) := by
    refine .go (t := (true, 0 + w)) (by show cstep X f 0 n (false, f.getD w 0) = _; rw [cs_fl (by rw [df.2.2.1]; exact hwn), df.2.2.1]) ?_
    refine .go (t := (false, X.getD (0 + w) 0 - 0)) (cs_tg (Nat.zero_le _)) ?_
    rw [Nat.zero_add]; exact down hz
  have w2 := (ends_back hX0 hf.two (down hw) (show w < n + n by omega)).2 _ e1
  rw [rd_cmp hf px, cmp_d _ _ (by omega)]
  exact cfar_is w2
theorem xs_moves (j : Nat) {w : Nat} (hw : w ∈ lse (pw f n n) n) : ∀ i, (rd (pw f n (n + j + i)) ps n).getD (itn (mvs f n) i w) 0 = itn (mvs f n) i ((rd (pw f n (n + j)) ps n).getD w 0)
  | 0 => rfl
  | i + 1 => by
    have := xs_move hn hf hp (j + i) (itn_mem hn hf hw i)
    rw [show n + (j + i) = n + j + i by omega, xs_moves j hw i] at this
    exact this
/-- who becomes a couple does so soon -/
theorem soon (h2 : 2 ≤ n) {u v : Nat} (hu : u < n) : ∀ k, (rd (pw f n k) ps n).getD u 0 = v → ∃ k', k' < n * n ∧ (rd (pw f n k') ps n).getD u 0 = v := by
  intro k
  induction k using Nat.strongRecOn with
  | ind k ih =>
    intro hk
    have cl := fun z hz => mvs_mem hn hf (z := z) hz
    have inj := fun z hz y hy e => mvs_inj hn hf (z := z) (y := y) hz hy e
    have hnn : n + n ≤ n * n := by rw [← Nat.two_mul]; exact Nat.mul_le_mul_right _ h2
    rcases Nat.lt_or_ge k (n + n) with c | c
    · exact ⟨k, by omega, hk⟩
    by_cases hB : u ∈ lse (pw f n n) n
    · obtain ⟨j, rfl⟩ : ∃ j, k = n + j := ⟨k - n, by omega⟩
      have hv : v ∈ lse (pw f n n) n := by rw [← hk]; exact xs_in hn hf hp j hB
      -- a time after which both come from the same places
      obtain ⟨P, p1, p2, p3, p4⟩ : ∃ P, 1 ≤ P ∧ n + P ≤ n * n ∧ itn (mvs f n) P u = u ∧ itn (mvs f n) P v = v := by
        have least : ∀ {z}, z ∈ lse (pw f n n) n → ∃ L, IsLen (mvs f n) z L ∧ L ≤ (lse (pw f n n) n).length := fun {z} hz => by
          obtain ⟨m, m1, m2, m3⟩ := cyc_ex cl inj hz
          have : ∀ b, ∀ m, m ≤ b → 1 ≤ m → itn (mvs f n) m z = z → ∃ L, IsLen (mvs f n) z L ∧ L ≤ m := fun b => by
            induction b with
            | zero => intro m h1 h2; omega
            | succ b ih =>
              intro m h1 h2 h3
              by_cases c : ∃ i, 1 ≤ i ∧ i < m ∧ itn (mvs f n) i z = z
              · obtain ⟨i, i1, i2, i3⟩ := c
                obtain ⟨L, l1, l2⟩ := ih i (by omega) i1 i3
                exact ⟨L, l1, by omega⟩
              · exact ⟨m, ⟨h2, h3, fun i i1 i2 i3 => c ⟨i, i1, i2, i3⟩⟩, Nat.le_refl _⟩
          obtain ⟨L, l1, l2⟩ := this m m (Nat.le_refl _) m1 m3
          exact ⟨L, l1, by omega⟩
        have Bn : (lse (pw f n n) n).length ≤ n := Nat.le_trans (List.length_filter_le _ _) (by rw [List.length_range]; exact Nat.le_refl _)
        obtain ⟨a, a1, a2⟩ := least hB
        obtain ⟨b, b1, b2⟩ := least hv
        by_cases same : ∃ i, i < a ∧ itn (mvs f n) i u = v
        · obtain ⟨i, i1, i2⟩ := same
          refine ⟨a, a1.1, by omega, a1.2.1, ?_⟩
          rw [← i2, ← itn_add, show i + a = a + i by omega, itn_add, a1.2.1]
        · have dist : ∀ {z L}, z ∈ lse (pw f n n) n → IsLen (mvs f n) z L → ((List.range L).map fun i => itn (mvs f n) i z).Nodup := fun {z L} hz hL => by
            rw [List.nodup_iff_pairwise_ne, List.pairwise_map]
            refine List.Pairwise.imp_of_mem ?_ List.pairwise_lt_range
            intro i j _ hj hij e
            have hj' := List.mem_range.mp hj
            rw [show j = (j - i) + i by omega, itn_add] at e
            exact hL.2.2 (j - i) (by omega) (by omega) (it_inj cl inj hz (it_mem cl hz (j - i)) i e).symm
          have hnd : (((List.range a).map fun i => itn (mvs f n) i u) ++ (List.range b).map fun i => itn (mvs f n) i v).Nodup := by
            refine List.nodup_append.mpr ⟨dist hB a1, dist hv b1, fun x hx y hy e => ?_⟩
            obtain ⟨i, hi, rfl⟩ := List.mem_map.mp hx
            obtain ⟨j, hj, rfl⟩ := List.mem_map.mp hy
            have hi' := List.mem_range.mp hi
            have hj' := List.mem_range.mp hj
            -- then v is on the cycle of u
            have e2 : itn (mvs f n) (i + (b - j)) u = v := by rw [itn_add, e, ← itn_add, show j + (b - j) = b by omega]; exact b1.2.1
            refine same ⟨(i + (b - j)) % a, Nat.mod_lt _ a1.1, ?_⟩
            rw [show i + (b - j) = a * ((i + (b - j)) / a) + (i + (b - j)) % a from (Nat.div_add_mod _ _).symm, itn_add, itn_mul a1.2.1] at e2
            exact e2
          have hlen := nd_subL _ (lse (pw f n n) n) hnd fun y hy => by
            rcases List.mem_append.mp hy with hy | hy
            · obtain ⟨i, _, rfl⟩ := List.mem_map.mp hy; exact it_mem cl hB i
            · obtain ⟨i, _, rfl⟩ := List.mem_map.mp hy; exact it_mem cl hv i
          rw [List.length_append, List.length_map, List.length_map, List.length_range, List.length_range] at hlen
          have ha := a1.1
          have hb := b1.1
          refine ⟨a * b, Nat.mul_pos ha hb, ?_, itn_mul a1.2.1 b, ?_⟩
          · have h3 : n + a * b ≤ (a + b) * n := by
              obtain ⟨t, rfl⟩ : ∃ t, n = a + b + t := ⟨n - (a + b), by omega⟩
              have g1 : (a + b) * (a + b + t) = (a + b) * (a + b) + (a + b) * t := Nat.mul_add _ _ _
              have g2 : (a + b) * (a + b) = a * a + a * b + (b * a + b * b) := by rw [Nat.add_mul, Nat.mul_add, Nat.mul_add]
              have g3 : a ≤ a * a := Nat.le_mul_of_pos_left _ ha
              have g4 : b ≤ b * b := Nat.le_mul_of_pos_left _ hb
              have g5 : t ≤ (a + b) * t := Nat.le_mul_of_pos_left _ (by omega)
              omega
            exact Nat.le_trans h3 (Nat.mul_le_mul_right _ (by omega))
          · rw [Nat.mul_comm]; exact itn_mul b1.2.1 a
      rcases Nat.lt_or_ge (n + j) (n * n) with d | d
      · exact ⟨n + j, d, hk⟩
      · have e := xs_moves hn hf hp (j - P) hB P
        rw [show n + (j - P) + P = n + j by omega, p3, hk] at e
        have e2 : (rd (pw f n (n + (j - P))) ps n).getD u 0 = v :=
          it_inj cl inj (xs_in hn hf hp (j - P) hB) hv P (by rw [← e, p4])
        exact ih (n + (j - P)) (by omega) e2
    · have h1 : n ≤ (pw f n n).getD (n + u) 0 := by
        by_cases d : n ≤ (pw f n n).getD (n + u) 0
        · exact d
        · exact absurd ((lse_mem hn hf).mpr ⟨hu, by omega⟩) hB
      have e1 := xs_low hn hf hp (k - n) hu h1
      rw [show n + (k - n) = k by omega, hk] at e1
      have e2 := xs_low hn hf hp 0 hu h1
      exact ⟨n + 0, by omega, by rw [e2, e1]⟩
end
end Pc
namespace Pc
open PySem PySem.Spec PyProof.Rows L2 RZ
/-! ### the first time of something, or none -/
def FT (x : Nat → List Nat) (u v : Nat) : Option Nat → Prop
  | some k => (x k).getD u 0 = v ∧ ∀ j, j < k → (x j).getD u 0 ≠ v
  | none => ∀ j, (x j).getD u 0 ≠ v
def oV : Option Nat → V
  | some k => .int (k : Nat)
  | none => .non
def oD : Option Nat → PyData
  | some k => .int (k : Nat)
  | none => .none
theorem dp_oV {K : PySem.W.Frag} {H : Hp} : ∀ o : Option Nat, Dp K H (oV o) (oD o)
  | some _ => .int _
  | none => .non
theorem fi_oD {o : Option Nat} (h : ∀ k, o = some k → k < 2 ^ 60) : Fi 0 (oD o) := by
  cases o with
  | none => exact fi_non
  | some k => exact fi_int (by have := h k rfl; omega)
theorem FT.det {x : Nat → List Nat} {u v : Nat} {o p : Option Nat} (h : FT x u v o) (g : FT x u v p) : o = p := by
  cases o with
  | none =>
    cases p with
    | none => rfl
    | some k => exact absurd g.1 (h k)
  | some k =>
    cases p with
    | none => exact absurd h.1 (g k)
    | some l =>
      rcases Nat.lt_trichotomy k l with c | c | c
      · exact absurd h.1 (g.2 k c)
      · rw [c]
      · exact absurd g.1 (h.2 l c)
theorem FT.symm {x : Nat → List Nat} {n u v : Nat} {o : Option Nat} (hx : ∀ k, IsPair n (x k)) (hu : u < n) (hv : v < n) (h : FT x u v o) : FT x v u o := by
  have e : ∀ k, (x k).getD v 0 = u ↔ (x k).getD u 0 = v := fun k =>
    ⟨fun e => by rw [← e]; exact ((hx k).d hv).2.2.1, fun e => by rw [← e]; exact ((hx k).d hu).2.2.1⟩
  cases o with
  | none => exact fun j hj => h j ((e j).mp hj)
  | some k => exact ⟨(e k).mpr h.1, fun j hj hk => h.2 j hj ((e j).mp hk)⟩
theorem crs_cover {x : Nat → List Nat} {F : List Nat → List Nat} (hF : ∀ k, x (k + 1) = F (x k)) {L j : Nat} (h : Crs x L j) : ∀ k, ∃ i, i < L ∧ i ≤ k ∧ x k = x i := by
  have st : ∀ t, x (L + t) = x (j + t) := fun t => by
    induction t with
    | zero => exact h.rec_
    | succ t ih => rw [show L + (t + 1) = (L + t) + 1 by omega, hF, ih, ← hF]; rfl
  intro k
  induction k using Nat.strongRecOn with
  | ind k ih =>
    rcases Nat.lt_or_ge k L with c | c
    · exact ⟨k, c, Nat.le_refl _, rfl⟩
    · have hl := h.lt
      obtain ⟨i, h1, h2, h3⟩ := ih (j + (k - L)) (by omega)
      exact ⟨i, h1, by omega, by rw [← h3, ← st, show L + (k - L) = k by omega]⟩
theorem flt_first {p : Nat → Bool} : ∀ (L : Nat), (((List.range L).filter p) = [] → ∀ k, k < L → p k = false) ∧ ∀ k0 r, (List.range L).filter p = k0 :: r → k0 < L ∧ p k0 = true ∧ ∀ j, j < k0 → p j = false := fun L => by
  refine ⟨fun h k hk => ?_, fun k0 r h => ?_⟩
  · cases e : p k with
    | false => rfl
    | true => have : k ∈ (List.range L).filter p := List.mem_filter.mpr ⟨List.mem_range.mpr hk, e⟩; rw [h] at this; exact absurd this List.not_mem_nil
  · have hm : k0 ∈ (List.range L).filter p := by rw [h]; exact List.mem_cons_self
    obtain ⟨h1, h2⟩ := List.mem_filter.mp hm
    have hs : ((List.range L).filter p).Pairwise (· < ·) := List.Pairwise.filter _ List.pairwise_lt_range
    rw [h] at hs
    refine ⟨List.mem_range.mp h1, h2, fun j hj => ?_⟩
    cases e : p j with
    | false => rfl
    | true =>
      have hk0 := List.mem_range.mp h1
      have : j ∈ (List.range L).filter p := List.mem_filter.mpr ⟨List.mem_range.mpr (by omega), e⟩
      rw [h] at this
      rcases List.mem_cons.mp this with c | c
      · omega
      · have := (List.pairwise_cons.mp hs).1 j c; omega
theorem flt_FT {x : Nat → List Nat} {F : List Nat → List Nat} (hF : ∀ k, x (k + 1) = F (x k)) {L j u v : Nat} (h : Crs x L j) : ∀ {l : List Nat}, (List.range L).filter (fun k => decide ((x k).getD u 0 = v)) = l → FT x u v l.head? ∧ ∀ k, l.head? = some k → k < L
  | [], e => by
    refine ⟨fun k hk => ?_, fun k hk => by cases hk⟩
    obtain ⟨i, h1, h2, h3⟩ := crs_cover hF h k
    have := (flt_first L).1 e i h1
    rw [h3] at hk
    exact absurd hk (of_decide_eq_false this)
  | k0 :: r, e => by
    obtain ⟨h1, h2, h3⟩ := (flt_first L).2 k0 r e
    exact ⟨⟨of_decide_eq_true h2, fun j hj => of_decide_eq_false (h3 j hj)⟩, fun k hk => by cases hk; exact h1⟩
def pm3210 {α : Type} : List α → List α
  | [a, b, c, d] => [d, c, b, a]
  | l => l
theorem rel_pm3210 {zs : List V} {ws : List Value} (hl : zs.length = 4) (r : Vals zs ws) : Vals (pm3210 zs) (pm3210 ws) := by
  match zs, ws, hl, r with
  | [_, _, _, _], _, _, .cons h1 (.cons h2 (.cons h3 (.cons h4 .nil))) => exact .cons h4 (.cons h3 (.cons h2 (.cons h1 .nil)))
end Pc
namespace Pc
open PySem PySem.Spec PyProof.Rows L2 RZ
section
variable {P : Program} {w : World} {K : PySem.W.Frag} {mg : Str → Option Value} {base : Heap}
/-! ### the first time that two are a couple -/
def spFirst (K : PySem.W.Frag) : Sp := fun vs H Q _ => ∃ (a wd : Addr) (ps : List Nat) (n u v : Nat) (us : List V) (qs : List (Nat × Nat)), vs = [.ref a, .ref wd, .int u, .int v] ∧ Sq K H a (nv ps) ∧ IsPair n ps ∧ 2 ≤ n ∧ n ≤ 20 ∧ u < n ∧ v < n ∧ Sq K H wd us ∧ Items K H us qs ∧ Calls n qs ∧
  ∀ (H' : Hp) (o : Option Nat), FT (rns qs ps) u v o → Same H H' → Q (oV o) H'
theorem ok_p_first_time (T : Env K mg) : FnOk P w K mg base CX0 7 T.f_p_first_time T.d_p_first_time ["pairing", "word", "person", "partner"] (spFirst K) := by
  have GS : FnOk P w K mg base CX0 5 T.f_p_sheet_of T.d_p_sheet_of ["size", "word"] (spPSheetOf K) := ok_p_sheet_of T
  have GC : FnOk P w K mg base CX0 1 T.f_p_check_person T.d_p_check_person ["size", "person"] spCheckPerson := ok_p_check_person T
  have GR : FnOk P w K mg base CX0 3 T.f_p_result T.d_p_result ["sheet", "pairing"] (spResult K) := ok_p_result T
  refine T.F_p_first_time.ok sc_p_first_time (fun vs H Q E h => ?_) (fun cdv A outer s H vs Q E hr h => ?_)
  · obtain ⟨a, wd, ps, n, u, v, us, qs, rfl, _⟩ := h
    rfl
  · obtain ⟨a, wd, ps, n, u, v, us, qs, rfl, ha, hp, h2, hn, hu, hv, hw, hI, hc, q⟩ := h
    have h1 := hr.mono (show 1 ≤ 6 by decide)
    have h3 := hr.mono (show 3 ≤ 6 by decide)
    have h5 := hr.mono (show 5 ≤ 6 by decide)
    have h0 : 0 < n := by omega
    refine ⟨_, pss_cons (ps_set (i := 4) sc_p_first_time.nd rfl (.inl rfl) (pe_callB call_len_seq (by rfl) T.n_len PySem.boot_len (pa_cons (pv 0) pa_nil))) <|
      pss_cons (ps_set (i := 5) sc_p_first_time.nd rfl (.inl rfl) (pe_call GS h5 (by rfl) T.g_p_sheet_of T.F_p_sheet_of.kp T.b_p_sheet_of .nil pass0 (pa_cons (pv 4) (pa_cons (pv 1) pa_nil)))) <|
      pss_cons (ps_expr (pe_call GC h1 (by rfl) T.g_p_check_person T.F_p_check_person.kp T.b_p_check_person .nil pass0 (pa_cons (pv 4) (pa_cons (pv 2) pa_nil)))) <|
      pss_cons (ps_expr (pe_call GC h1 (by rfl) T.g_p_check_person T.F_p_check_person.kp T.b_p_check_person .nil pass0 (pa_cons (pv 4) (pa_cons (pv 3) pa_nil)))) <|
      pss_cons (ps_set (i := 6) sc_p_first_time.nd rfl (.inl rfl) (pe_callTy call_tuple_of (by rfl) T.n_tuple (by decide +kernel) (pa_cons (pv 0) pa_nil))) <|
      pss_cons (ps_for PassesOwn.never rfl (pi_range1 (by rfl) T.n_range (pa_cons (pe_op op_mul (pv 4) (pv 4)) pa_nil)) (pg_name (i := 7) sc_p_first_time.nd rfl (.inl rfl))
        (pss_cons (ps_if (pt_cmpR op_eq (pe_ix ix_tup (pv 6) (pv 2) (fun _ _ => rfl)) (pv 3) (nomark _)) (pss_one (ps_ret (pv 7))) pss_nil) <|
        pss_one (ps_set (i := 6) sc_p_first_time.nd rfl (.inl rfl) (pe_call GR h3 (by rfl) T.g_p_result T.F_p_result.kp T.b_p_result .nil pass0 (pa_cons (pv 5) (pa_cons (pv 6) pa_nil)))))) <|
      pss_one (ps_ret pe_non), ?_⟩
    obtain ⟨f, hfe⟩ : ∃ f, f = shw n qs (emp n) := ⟨_, rfl⟩
    have hf : IsPair (2 * n) f := by rw [hfe]; exact shw_pair (emp_pair h0) hc
    have px := rns_pair hp hc
    have rdf : ∀ k, rd f (rns qs ps k) n = rns qs ps (k + 1) := fun k => by rw [hfe, rd_word h0 (px k) hc]; rfl
    refine ⟨.ref a, rfl, a, _, rfl, ha, ?_⟩
    rw [show ((nv ps).length : Int) = (n : Nat) by rw [nv_length, hp.len]]
    refine st_set [some (.ref a), some (.ref wd), some (.int u), some (.int v), some (.int (n : Nat)), none, none, none] ?_ rfl
    refine ⟨_, rfl, _, rfl, n, wd, us, qs, rfl, hw, hI, hc, h0, by omega, fun H1 t1 s1 n1 e1 => ?_⟩
    rw [← hfe] at e1
    refine st_set [some (.ref a), some (.ref wd), some (.int u), some (.int v), some (.int (n : Nat)), some (.ref t1), none, none] ?_ rfl
    refine ⟨_, rfl, _, rfl, n, u, rfl, by omega, ?_⟩
    refine ⟨_, rfl, _, rfl, n, v, rfl, by omega, ?_⟩
    have ha3 : Sq K H1 a (nv ps) := ha.same s1
    refine ⟨_, rfl, a, nv ps, rfl, ?_⟩
    rcases ha3 with hl | ht
    case' inl =>
      refine .inl ⟨hl, fun pr npr => ?_⟩
      have s4 : Same H1 (upd H1 pr (.tup (nv ps))) := same_new npr
      have epr : SqT K (upd H1 pr (.tup (nv ps))) pr (nv ps) := .inl (.inl upd_same)
      revert s4 epr
      generalize upd H1 pr (.tup (nv ps)) = H4
      intro s4 epr
    case' inr =>
      refine .inr ⟨ht, ?_⟩
      obtain ⟨H4, e4⟩ : ∃ H4, H4 = H1 := ⟨H1, rfl⟩
      have s4 : Same H1 H4 := by rw [e4]; exact Same.refl _
      have epr : SqT K H4 a (nv ps) := by rw [e4]; exact ht
      rw [← e4]
      clear e4
    all_goals
      refine ⟨_, rfl, _, rfl, _, _, rfl, rfl, .inl ⟨by omega, by omega⟩, _, rfl, ?_, ?_, ?_⟩
      · have : (n : Int) * n ≤ 20 * 20 := Int.mul_le_mul (by omega) (by omega) (by omega) (by omega)
        have : (0 : Int) ≤ (n : Int) * n := Int.mul_nonneg (by omega) (by omega)
        omega
      · have : (n : Int) * n ≤ 20 * 20 := Int.mul_le_mul (by omega) (by omega) (by omega) (by omega)
        omega
      rw [show ((n : Int) * (n : Int)).toNat = n * n by rw [← Int.natCast_mul]; rfl]
      refine for_range (n := n * n) (fun k σ H' => Same H1 H' ∧ ∃ (pr : Addr) (y7 : Option V), σ = [some (.ref a), some (.ref wd), some (.int u), some (.int v), some (.int (n : Nat)), some (.ref t1), some (.ref pr), y7] ∧ SqT K H' pr (nv (rns qs ps k)) ∧ ∀ j, j < k → (rns qs ps j).getD u 0 ≠ v)
        ⟨s4, _, none, rfl, epr, fun j hj => absurd hj (Nat.not_lt_zero _)⟩ (fun k σ H' hk h => ?_) (fun σ H' h => ?_)
      · obtain ⟨sm, pr, y7, rfl, ep, hno⟩ := h
        refine st_set [some (.ref a), some (.ref wd), some (.int u), some (.int v), some (.int (n : Nat)), some (.ref t1), some (.ref pr), some (.int (k : Nat))] ?_ (by rw [Int.zero_add]; rfl)
        refine ⟨_, rfl, _, rfl, pr, _, _, _, rfl, rfl, ep, nv_at ((px k).d hu).2.2.2, _, rfl, rfl, _, rfl, ite2 (fun c => ?_) (fun c => ?_)⟩
        · have he : (rns qs ps k).getD u 0 = v := by have := V.int.inj (of_decide_eq_true c); omega
          exact ⟨_, rfl, q _ (some k) ⟨he, hno⟩ (s1.trans sm)⟩
        · have hne : (rns qs ps k).getD u 0 ≠ v := fun e => c (decide_eq_true (by rw [e]))
          refine ⟨_, rfl, _, rfl, t1, pr, f, rns qs ps k, n, rfl, .inr (.inl (.inl (sm _ _ e1))), .inr ep, hf, px k, by omega, fun H6 t6 s6 n6 e6 => ?_⟩
          rw [rdf] at e6
          refine ⟨sm.trans s6, t6, _, rfl, .inl (.inl e6), fun j hj => ?_⟩
          rcases Nat.lt_or_ge j k with d | d
          · exact hno j d
          · rw [show j = k by omega]; exact hne
      · obtain ⟨sm, pr, y7, rfl, ep, hno⟩ := h
        refine q _ none (fun j e => ?_) (s1.trans sm)
        rw [rns_rd h0 hp hc j, ← hfe] at e
        obtain ⟨k', hk', e'⟩ := soon h0 hf hp h2 hu j e
        rw [hfe, ← rns_rd h0 hp hc k'] at e'
        exact hno k' hk' e'
end
end Pc
namespace Pc
open PySem PySem.Spec PyProof.Rows L2 RZ
/-- a comprehension over a list or a tuple that stays as it is -/
theorem lc_seq' {K : PySem.W.Frag} {a : Addr} {xs : List V} {g : TG} {tt : TT} {te : TE} {vs : List Nat} {σ : L2.St} {H0 H1 : Hp} {Qd : Addr → Hp → Prop} (hS : Sq K H0 a xs) (s0 : Same H0 H1)
    (step : ∀ D, H1 D = none → ∃ Pv : Nat → Hp → Prop, Pv 0 (upd H1 D (.lst [])) ∧ (∀ i H', Pv i H' → Same H0 H') ∧ (∀ i x H', xs[i]? = some x → Pv i H' → g x (wipe σ vs) H' fun σ2 H2 => wipe σ2 vs = wipe σ vs ∧ tt σ2 H2 fun b H3 =>
      if b = true then te σ2 H3 fun y H4 => ∃ acc, H4 D = some (.lst acc) ∧ acc.length < sizeLine ∧ Pv (i + 1) (upd H4 D (.lst (acc ++ [y]))) else Pv (i + 1) H3) ∧ ∀ H', Pv xs.length H' → Qd D H') :
    ((∃ ys, SqL K H1 a ys) ∧ ∀ D, H1 D = none → ∃ W : Nat → Nat → Hp → Prop, (∃ m, W 0 m (upd H1 D (.lst []))) ∧ ∀ i m H, W i m H → ((Itl K a).stop i H ∧ Qd D H) ∨ ((Itl K a).go i H ∧ ∃ Nx : Hp → Prop, (∀ H', Nx H' → ∃ m', m' < m ∧ W (i + 1) m' H') ∧ ∀ x H', (Itl K a).yld i H x H' → g x (wipe σ vs) H' fun σ2 H2 => wipe σ2 vs = wipe σ vs ∧ tt σ2 H2 fun b H3 =>
        if b = true then te σ2 H3 fun y H4 => ∃ acc, H4 D = some (.lst acc) ∧ acc.length < sizeLine ∧ Nx (upd H4 D (.lst (acc ++ [y]))) else Nx H3)) ∨
    ((∃ ys, SqT K H1 a ys) ∧ ∀ D, H1 D = none → ∃ W : Nat → Nat → Hp → Prop, (∃ m, W 0 m (upd H1 D (.lst []))) ∧ ∀ i m H, W i m H → ((Itt K a).stop i H ∧ Qd D H) ∨ ((Itt K a).go i H ∧ ∃ Nx : Hp → Prop, (∀ H', Nx H' → ∃ m', m' < m ∧ W (i + 1) m' H') ∧ ∀ x H', (Itt K a).yld i H x H' → g x (wipe σ vs) H' fun σ2 H2 => wipe σ2 vs = wipe σ vs ∧ tt σ2 H2 fun b H3 =>
        if b = true then te σ2 H3 fun y H4 => ∃ acc, H4 D = some (.lst acc) ∧ acc.length < sizeLine ∧ Nx (upd H4 D (.lst (acc ++ [y]))) else Nx H3)) := by
  rcases hS with h | h
  · refine .inl ⟨⟨_, s0.seq h⟩, fun D nD => ?_⟩
    obtain ⟨Pv, h0, hst, hs, hd⟩ := step D nD
    exact lc_list Pv h0 (fun i H' _ p => (hst i H' p).seq h) hs hd
  · refine .inr ⟨⟨_, same_tup s0 h⟩, fun D nD => ?_⟩
    obtain ⟨Pv, h0, hst, hs, hd⟩ := step D nD
    exact lc_tup Pv h0 (fun i H' _ p => same_tup (hst i H' p) h) hs hd
end Pc
namespace Pc
open PySem PySem.Spec PyProof.Rows L2 RZ
/-! ### moved lists -/
structure Mvd (n : Nat) (js pl r : List Nat) : Prop where
  len : r.length = n
  at_ : ∀ i, i < n → r.getD (pl.getD i 0) 0 = pl.getD (js.getD i 0) 0
theorem pm_len {n : Nat} {pl : List Nat} (hp : pl.Perm (List.range n)) : pl.length = n := by rw [hp.length_eq, List.length_range]
theorem getD_some {l : List Nat} {i : Nat} (h : i < l.length) : l[i]? = some (l.getD i 0) := by rw [List.getD_eq_getElem?_getD, List.getElem?_eq_getElem h]; rfl
theorem pm_lt {n : Nat} {pl : List Nat} (hp : pl.Perm (List.range n)) {i : Nat} (hi : i < n) : pl.getD i 0 < n := by
  have := List.mem_of_getElem? (getD_some (l := pl) (i := i) (by rw [pm_len hp]; exact hi))
  exact List.mem_range.mp (hp.mem_iff.mp this)
theorem pm_inj {n : Nat} {pl : List Nat} (hp : pl.Perm (List.range n)) {i j : Nat} (hi : i < n) (hj : j < n) (e : pl.getD i 0 = pl.getD j 0) : i = j := by
  have hl := pm_len hp
  have a := getD_some (l := pl) (i := i) (by omega)
  have b := getD_some (l := pl) (i := j) (by omega)
  rw [e] at a
  exact nd_ix (hp.nodup_iff.mpr List.nodup_range) a b
theorem pm_sur {n : Nat} {pl : List Nat} (hp : pl.Perm (List.range n)) {y : Nat} (hy : y < n) : ∃ i, i < n ∧ pl.getD i 0 = y := by
  obtain ⟨i, hi, e⟩ := List.mem_iff_getElem.mp (hp.mem_iff.mpr (List.mem_range.mpr hy))
  refine ⟨i, by rw [← pm_len hp]; exact hi, ?_⟩
  rw [List.getD_eq_getElem?_getD, List.getElem?_eq_getElem hi, e]; rfl
theorem Mvd.det {n : Nat} {js pl r r' : List Nat} (hp : pl.Perm (List.range n)) (h : Mvd n js pl r) (g : Mvd n js pl r') : r = r' := by
  refine list_d (by rw [h.len, g.len]) fun y hy => ?_
  rw [h.len] at hy
  obtain ⟨i, hi, rfl⟩ := pm_sur hp hy
  rw [h.at_ i hi, g.at_ i hi]
theorem Mvd.pair {n : Nat} {js pl r : List Nat} (hp : pl.Perm (List.range n)) (hj : IsPair n js) (h : Mvd n js pl r) : IsPair n r := by
  refine ⟨h.len, fun x hx => ?_⟩
  obtain ⟨i, hi, rfl⟩ := pm_sur hp hx
  obtain ⟨j1, j2, j3, _⟩ := hj.d hi
  have hlt := pm_lt hp j1
  refine ⟨pl.getD (js.getD i 0) 0, ?_, hlt, fun e => j2 (pm_inj hp j1 hi e), ?_⟩
  · rw [getD_some (by rw [h.len]; exact hx), h.at_ i hi]
  · rw [getD_some (by rw [h.len]; exact hlt), h.at_ _ j1, j3]
theorem getD_set (fs : List Nat) {a z v : Nat} (ha : a < fs.length) : (fs.set a v).getD z 0 = if z = a then v else fs.getD z 0 := by
  rw [List.getD_eq_getElem?_getD, List.getElem?_set]
  by_cases c : z = a
  · rw [if_pos c, if_pos c.symm, if_pos ha]; rfl
  · rw [if_neg c, if_neg (Ne.symm c), ← List.getD_eq_getElem?_getD]
def MvI (n : Nat) (js pl fs : List Nat) (i : Nat) : Prop := fs.length = n ∧ ∀ j, j < i → fs.getD (pl.getD j 0) 0 = pl.getD (js.getD j 0) 0
theorem MvI.step {n i : Nat} {js pl fs : List Nat} (hp : pl.Perm (List.range n)) (hi : i < n) (h : MvI n js pl fs i) : MvI n js pl (fs.set (pl.getD i 0) (pl.getD (js.getD i 0) 0)) (i + 1) := by
  refine ⟨by rw [List.length_set]; exact h.1, fun j hj => ?_⟩
  rw [getD_set fs (by rw [h.1]; exact pm_lt hp hi)]
  by_cases c : j = i
  · subst c; rw [if_pos rfl]
  · rw [if_neg (fun e => c (pm_inj hp (by omega) hi e))]
    exact h.2 j (by omega)
/-- the new places of the ends -/
def pl2 (n : Nat) (pl : List Nat) : List Nat := pl ++ pl.map (n + ·)
theorem pl2_lo {n e : Nat} {pl : List Nat} (hl : pl.length = n) (he : e < n) : (pl2 n pl).getD e 0 = pl.getD e 0 := by
  unfold pl2
  rw [List.getD_eq_getElem?_getD, List.getElem?_append_left (by omega), ← List.getD_eq_getElem?_getD]
theorem pl2_hi {n e : Nat} {pl : List Nat} (hl : pl.length = n) (he : e < n) : (pl2 n pl).getD (n + e) 0 = n + pl.getD e 0 := by
  unfold pl2
  rw [List.getD_eq_getElem?_getD, List.getElem?_append_right (by omega), hl, show n + e - n = e by omega, List.getElem?_map, getD_some (by omega)]; rfl
theorem pl2_perm {n : Nat} {pl : List Nat} (hp : pl.Perm (List.range n)) : (pl2 n pl).Perm (List.range (2 * n)) := by
  have e : List.range (2 * n) = List.range n ++ (List.range n).map (n + ·) := by rw [show 2 * n = n + n by omega, List.range_add]
  rw [e]
  exact hp.append (hp.map _)
/-- two groups, one behind the other -/
def jnd (a b : List Nat) : List Nat := a ++ b.map (a.length + ·)
theorem jnd_lo {a b : List Nat} {e : Nat} (he : e < a.length) : (jnd a b).getD e 0 = a.getD e 0 := by
  unfold jnd
  rw [List.getD_eq_getElem?_getD, List.getElem?_append_left he, ← List.getD_eq_getElem?_getD]
theorem jnd_hi {a b : List Nat} {e : Nat} (he : e < b.length) : (jnd a b).getD (a.length + e) 0 = a.length + b.getD e 0 := by
  unfold jnd
  rw [List.getD_eq_getElem?_getD, List.getElem?_append_right (by omega), show a.length + e - a.length = e by omega, List.getElem?_map, getD_some he]; rfl
theorem jnd_len (a b : List Nat) : (jnd a b).length = a.length + b.length := by unfold jnd; rw [List.length_append, List.length_map]
theorem jnd_pair {n m : Nat} {a b : List Nat} (ha : IsPair n a) (hb : IsPair m b) : IsPair (n + m) (jnd a b) := by
  have la := ha.len
  have lb := hb.len
  refine ⟨by rw [jnd_len, la, lb], fun x hx => ?_⟩
  by_cases c : x < n
  · obtain ⟨h1, h2, h3, _⟩ := ha.d c
    refine ⟨a.getD x 0, ?_, by omega, h2, ?_⟩
    · rw [getD_some (by rw [jnd_len]; omega), jnd_lo (by omega)]
    · rw [getD_some (by rw [jnd_len]; omega), jnd_lo (by omega), h3]
  · obtain ⟨y, rfl⟩ : ∃ y, x = a.length + y := ⟨x - n, by omega⟩
    obtain ⟨h1, h2, h3, _⟩ := hb.d (show y < m by omega)
    refine ⟨a.length + b.getD y 0, ?_, by omega, by omega, ?_⟩
    · rw [getD_some (by rw [jnd_len]; omega), jnd_hi (by omega)]
    · rw [getD_some (by rw [jnd_len]; omega), jnd_hi (by omega), h3]
/-- where the ends of two sheets side by side go -/
def plj (n m : Nat) : List Nat := List.range n ++ (List.range n).map (n + m + ·) ++ (List.range m).map (n + ·) ++ (List.range m).map (n + m + n + ·)
end Pc
namespace Pc
open PySem PySem.Spec PyProof.Rows L2 RZ
theorem cut_tk (vs : List V) (i : Nat) : cutV vs none (some (i : Int)) = vs.take i := by
  unfold cutV
  rw [HT.sIx_none, HT.sIx_nat, List.drop_zero, Nat.sub_zero]
  by_cases h : i ≤ vs.length
  · rw [Nat.min_eq_left h]
  · rw [Nat.min_eq_right (by omega), List.take_of_length_le (Nat.le_refl _), List.take_of_length_le (by omega)]
theorem cut_dr (vs : List V) (i : Nat) : cutV vs (some (i : Int)) none = vs.drop i := by
  unfold cutV
  rw [HT.sIx_none, HT.sIx_nat]
  by_cases h : i ≤ vs.length
  · rw [Nat.min_eq_left h, List.take_of_length_le (by rw [List.length_drop]; omega)]
  · rw [Nat.min_eq_right (by omega), List.drop_of_length_le (Nat.le_refl _), List.drop_of_length_le (by omega), List.take_nil]
theorem rng_take (n m : Nat) : (List.range (n + m)).take n = List.range n := by
  rw [List.range_add, List.take_append_of_le_length (by rw [List.length_range]; exact Nat.le_refl _), List.take_of_length_le (by rw [List.length_range]; exact Nat.le_refl _)]
theorem rng_drop (n m : Nat) : (List.range (n + m)).drop n = (List.range m).map (n + ·) := by
  rw [List.range_add, List.drop_append_of_le_length (by rw [List.length_range]; exact Nat.le_refl _), List.drop_of_length_le (by rw [List.length_range]; exact Nat.le_refl _), List.nil_append]
theorem nv_take (l : List Nat) (k : Nat) : (nv l).take k = nv (l.take k) := by unfold nv; rw [List.map_take]
theorem nv_drop (l : List Nat) (k : Nat) : (nv l).drop k = nv (l.drop k) := by unfold nv; rw [List.map_drop]
theorem nv_app (l m : List Nat) : nv l ++ nv m = nv (l ++ m) := by unfold nv; rw [List.map_append]
theorem plj_perm (n m : Nat) : (plj n m).Perm (List.range (2 * (n + m))) := by
  have e : List.range (2 * (n + m)) = List.range n ++ ((List.range m).map (n + ·) ++ ((List.range n).map (n + m + ·) ++ (List.range m).map (n + m + n + ·))) := by
    rw [show 2 * (n + m) = (n + m) + (n + m) by omega, List.range_add, List.range_add (n := n), List.map_append, List.map_map, List.append_assoc]
    refine congrArg (fun z => List.range n ++ (List.map (fun x => n + x) (List.range m) ++ (List.map (fun x => n + m + x) (List.range n) ++ z))) (List.map_congr_left fun x _ => ?_)
    show n + m + (n + x) = _
    omega
  rw [e]
  unfold plj
  rw [List.append_assoc, List.append_assoc]
  refine List.Perm.append_left _ ?_
  rw [← List.append_assoc, ← List.append_assoc]
  exact List.Perm.append_right _ List.perm_append_comm
theorem plj_len (n m : Nat) : (plj n m).length = 2 * (n + m) := by rw [(plj_perm n m).length_eq, List.length_range]
theorem getD_app1 {a b : List Nat} {e : Nat} (h : e < a.length) : (a ++ b).getD e 0 = a.getD e 0 := by rw [List.getD_eq_getElem?_getD, List.getElem?_append_left h, ← List.getD_eq_getElem?_getD]
theorem getD_app2 {a b : List Nat} {e k : Nat} (h : a.length = k) : (a ++ b).getD (k + e) 0 = b.getD e 0 := by rw [List.getD_eq_getElem?_getD, List.getElem?_append_right (by omega), h, show k + e - k = e by omega, ← List.getD_eq_getElem?_getD]
theorem getD_shift {k n e : Nat} (h : e < n) : ((List.range n).map (k + ·)).getD e 0 = k + e := by
  rw [List.getD_eq_getElem?_getD, List.getElem?_map, List.getElem?_range h]; rfl
/-- the first sheet's ends -/
def p1 (n m e : Nat) : Nat := if e < n then e else m + e
/-- the second sheet's ends -/
def p2 (n m e : Nat) : Nat := if e < m then n + e else n + n + e
theorem plj_1 {n m e : Nat} (h : e < 2 * n) : (plj n m).getD e 0 = p1 n m e := by
  unfold plj p1
  rw [getD_app1 (by simp; omega), getD_app1 (by simp; omega)]
  by_cases c : e < n
  · rw [getD_app1 (by simpa using c), if_pos c, List.getD_eq_getElem?_getD, List.getElem?_range c]; rfl
  · obtain ⟨z, rfl⟩ : ∃ z, e = n + z := ⟨e - n, by omega⟩
    rw [getD_app2 (by simp), getD_shift (by omega), if_neg c]; omega
theorem plj_2 {n m e : Nat} (h : e < 2 * m) : (plj n m).getD (2 * n + e) 0 = p2 n m e := by
  unfold plj p2
  by_cases c : e < m
  · rw [getD_app1 (by simp; omega), getD_app2 (by simp; omega), getD_shift c, if_pos c]
  · obtain ⟨z, rfl⟩ : ∃ z, e = m + z := ⟨e - m, by omega⟩
    rw [show 2 * n + (m + z) = (2 * n + m) + z by omega, getD_app2 (by simp; omega), getD_shift (by omega), if_neg c]; omega
end Pc
namespace Pc
open PySem PySem.Spec PyProof.Rows L2 RZ
section
variable {P : Program} {w : World} {K : PySem.W.Frag} {mg : Str → Option Value} {base : Heap}
/-! ### moved -/
def spMoved (K : PySem.W.Frag) : Sp := fun vs H Q _ => ∃ (a p : Addr) (js pl : List Nat) (n : Nat), vs = [.ref a, .ref p] ∧ Sq K H a (nv js) ∧ Sq K H p (nv pl) ∧ pl.Perm (List.range n) ∧ js.length = n ∧ (∀ j ∈ js, j < n) ∧ n ≤ 1000 ∧
  ∀ (H' : Hp) (t : Addr) (r : List Nat), Mvd n js pl r → Same H H' → H t = none → H' t = some (.tup (nv r)) → Q (.ref t) H'
theorem ok_p_moved (T : Env K mg) : FnOk P w K mg base CX0 1 T.f_p_moved T.d_p_moved ["joins", "places"] (spMoved K) := by
  refine T.F_p_moved.ok sc_p_moved (fun vs H Q E h => ?_) (fun cdv A outer s H vs Q E hr h => ?_)
  · obtain ⟨a, p, js, pl, n, rfl, _⟩ := h
    rfl
  · obtain ⟨a, p, js, pl, n, rfl, ha, hp, hpm, hl, hlt, hn, q⟩ := h
    refine ⟨_, pss_cons (ps_set (i := 2) sc_p_moved.nd rfl (.inl rfl) (pe_op op_rep (pe_lst (pa_cons pe_int pa_nil)) (pe_callB call_len_seq (by rfl) T.n_len PySem.boot_len (pa_cons (pv 0) pa_nil)))) <|
      pss_cons (ps_for PassesOwn.never rfl (pi_enumA (by rfl) T.n_enumerate (pa_cons (pv 0) pa_nil)) (pg_tup (by rfl) (pgs_cons (pg_name (i := 3) sc_p_moved.nd rfl (.inl rfl)) (pgs_cons (pg_name (i := 4) sc_p_moved.nd rfl (.inl rfl)) pgs_nil)))
        (pss_one (ps_asg (pe_ix ix_seq (pv 1) (pv 4) (fun _ _ => rfl)) (pg_sub (pv 2) (pe_ix ix_seq (pv 1) (pv 3) (fun _ _ => rfl)) set_list)))) <|
      pss_one (ps_ret (pe_callTy call_tuple_of (by rfl) T.n_tuple (by decide +kernel) (pa_cons (pv 2) pa_nil))), ?_⟩
    have hpl := pm_len hpm
    refine ⟨by show 1 ≤ sizeLine; decide, fun e ne => ?_⟩
    have s0 : Same H (upd H e (.lst [.int 0])) := same_new ne
    refine ⟨.ref a, rfl, a, nv js, rfl, ha.same s0, e, _, [.int 0], rfl, rfl, upd_same, by omega, ?_, ?_, fun f nf => ?_⟩
    · rw [nv_length]; omega
    · show 1 * Int.toNat ((nv js).length : Int) ≤ sizeLine
      rw [nv_length]
      exact Nat.le_of_lt (small1000 (by omega))
    have e0 : (List.replicate (((nv js).length : Int)).toNat [V.int 0]).flatten = nv (List.replicate n 0) := by
      rw [rep_flat, nv_length, show ((js.length : Int)).toNat = n by omega]
      unfold nv
      rw [List.map_replicate]; rfl
    have s1 : Same H _ := s0.trans (same_new (o := .lst (List.replicate (((nv js).length : Int)).toNat [V.int 0]).flatten) nf)
    have nf0 : H f = none := s0.free nf
    have turn : ∀ (i : Nat) (x : V) (σ : L2.St) (H1 H2 : Hp), i < (nv js).length → (Same H H1 ∧ ∃ (y3 y4 : Option V) (fs : List Nat), σ = [some (.ref a), some (.ref p), some (.ref f), y3, y4] ∧ H1 f = some (.lst (nv fs)) ∧ MvI n js pl fs i) → YPair (fun i => some (.int (i : Nat))) (fun i => (nv js)[i]?) i H1 x H2 →
        ∀ N : L2.St → Hp → Prop, (∀ σ' H', (Same H H' ∧ ∃ (y3 y4 : Option V) (fs : List Nat), σ' = [some (.ref a), some (.ref p), some (.ref f), y3, y4] ∧ H' f = some (.lst (nv fs)) ∧ MvI n js pl fs (i + 1)) → N σ' H') →
        gTup K 2 (gCons (gName 3) (gCons (gName 4) gNil)) x σ H2 fun σ2 H2 => ∃ v1, σ2[1]? = some (some v1) ∧ ∃ v4, σ2[4]? = some (some v4) ∧ rIx K v1 v4 H2 fun u H3 => ∃ v2, σ2[2]? = some (some v2) ∧ ∃ w1, σ2[1]? = some (some w1) ∧ ∃ v3, σ2[3]? = some (some v3) ∧ rIx K w1 v3 H3 fun z H4 => rSetL v2 z u H4 fun H5 => N σ2 H5 := by
      intro i x σ H1 H2 hi hPv y N hN
      obtain ⟨sm, y3, y4, fs, rfl, ef, mi⟩ := hPv
      obtain ⟨t, v1, v2, rfl, nt, rfl, g1, g2⟩ := y
      have ev1 : v1 = .int (i : Nat) := (Option.some.inj g1).symm
      obtain ⟨z, ez, ev2⟩ := nv_get' g2
      subst ev1 ev2
      rw [nv_length, hl] at hi
      have hz := hlt z (List.mem_of_getElem? ez)
      have st : Same H1 (upd H1 t (.tup [.int (i : Nat), .int z])) := same_new nt
      have hp2 : Sq K (upd H1 t (.tup [.int (i : Nat), .int z])) p (nv pl) := hp.same (sm.trans st)
      have g3 : atI (nv pl) ((z : Nat) : Int) = some (.int (pl.getD z 0 : Nat)) := nv_at (getD_some (by omega))
      have g4 : atI (nv pl) ((i : Nat) : Int) = some (.int (pl.getD i 0 : Nat)) := nv_at (getD_some (by omega))
      have hli := pm_lt hpm hi
      refine ⟨t, _, rfl, .inl (.inl upd_same), rfl, _, _, rfl, _, _, rfl, rfl, _, rfl, _, rfl, ix_sq hp2 g3 ⟨_, rfl, _, rfl, _, rfl, ix_sq hp2 g4 ⟨f, _, _, pl.getD i 0, rfl, rfl, st _ _ ef, ixN_nat (by rw [nv_length, mi.1]; exact hli), hN _ _ ⟨fun b o hb => ?_, _, _, fs.set (pl.getD i 0) (pl.getD z 0), rfl, ?_, ?_⟩⟩⟩⟩
      · rw [upd_ne (ne_of_none hb nf0)]; exact st _ _ (sm _ _ hb)
      · rw [upd_same, nv_set]
      · have := mi.step hpm hi
        rw [show js.getD i 0 = z from getD_of ez] at this
        exact this
    have start : Same H (upd (upd H e (.lst [.int 0])) f (.lst (List.replicate (((nv js).length : Int)).toNat [V.int 0]).flatten)) ∧ ∃ (y3 y4 : Option V) (fs : List Nat), ([some (.ref a), some (.ref p), some (.ref f), none, none] : L2.St) = [some (.ref a), some (.ref p), some (.ref f), y3, y4] ∧ (upd (upd H e (.lst [.int 0])) f (.lst (List.replicate (((nv js).length : Int)).toNat [V.int 0]).flatten)) f = some (.lst (nv fs)) ∧ MvI n js pl fs 0 :=
      ⟨s1, none, none, List.replicate n 0, rfl, by rw [upd_same, e0], by rw [List.length_replicate], fun j hj => absurd hj (Nat.not_lt_zero _)⟩
    have fin : ∀ (σ : L2.St) (H' : Hp), (Same H H' ∧ ∃ (y3 y4 : Option V) (fs : List Nat), σ = [some (.ref a), some (.ref p), some (.ref f), y3, y4] ∧ H' f = some (.lst (nv fs)) ∧ MvI n js pl fs (nv js).length) → ∃ v, σ[2]? = some (some v) ∧ ∃ (p : Addr) (ys : List V), [v] = [.ref p] ∧ ((SqL K H' p ys ∧ ∀ l, H' l = none → Q (.ref l) (upd H' l (.tup ys))) ∨ (SqT K H' p ys ∧ Q (.ref p) H')) := by
      rintro σ H' ⟨sm, y3, y4, fs, rfl, ef, mi⟩
      rw [nv_length, hl] at mi
      exact ⟨_, rfl, f, _, rfl, .inl ⟨.inl (.inl ef), fun l nl => q _ l fs ⟨mi.1, mi.2⟩ (sm.trans (same_new nl)) (sm.free nl) upd_same⟩⟩
    rcases ha with ha | ha
    · refine ⟨.ref a, rfl, a, nv js, rfl, .inl ⟨s1.seq ha, ?_⟩⟩
      exact for_it walk_enum _ start (fun i σ H' _ h => h.1.seq ha) (fun i x σ H1 H2 hi hP' y => turn i x σ H1 H2 hi hP' y _ fun _ _ z => z) fin
    · refine ⟨.ref a, rfl, a, nv js, rfl, .inr ⟨same_tup s1 ha, ?_⟩⟩
      exact for_it walk_enumT _ start (fun i σ H' _ h => same_tup h.1 ha) (fun i x σ H1 H2 hi hP' y => turn i x σ H1 H2 hi hP' y _ fun _ _ z => z) fin
end
end Pc
namespace Pc
open PySem PySem.Spec PyProof.Rows L2 RZ
section
variable {P : Program} {w : World} {K : PySem.W.Frag} {mg : Str → Option Value} {base : Heap}
/-! ### joined -/
def spJoined (K : PySem.W.Frag) : Sp := fun vs H Q _ => ∃ (a b : Addr) (x y : List Nat), vs = [.ref a, .ref b] ∧ Sq K H a (nv x) ∧ Sq K H b (nv y) ∧ x ≠ [] ∧ y ≠ [] ∧ x.length ≤ 1000 ∧ y.length ≤ 1000 ∧
  ∀ (H' : Hp) (t : Addr), Same H H' → H t = none → H' t = some (.tup (nv (jnd x y))) → Q (.ref t) H'
theorem map_take_nv {y : List Nat} {i z k : Nat} (h : y[i]? = some z) : nv ((y.take i).map (k + ·)) ++ [V.int ((k : Int) + (z : Int))] = nv ((y.take (i + 1)).map (k + ·)) := by
  rw [List.take_add_one, h, List.map_append]
  unfold nv
  rw [List.map_append]
  rfl
theorem ok_p_joined (T : Env K mg) : FnOk P w K mg base CX0 1 T.f_p_joined T.d_p_joined ["one", "other"] (spJoined K) := by
  refine T.F_p_joined.ok sc_p_joined (fun vs H Q E h => ?_) (fun cdv A outer s H vs Q E hr h => ?_)
  · obtain ⟨a, b, x, y, rfl, _⟩ := h
    rfl
  · obtain ⟨a, b, x, y, rfl, ha, hb, hx0, hy0, hx, hy, q⟩ := h
    refine ⟨_, pss_one (ps_ret (pe_op op_catT (pe_callTy call_tuple_of (by rfl) T.n_tuple (by decide +kernel) (pa_cons (pv 0) pa_nil)) (pe_callTy call_tuple_of (by rfl) T.n_tuple (by decide +kernel) (pa_cons
      (pe_lc (own := [("partner", 2)]) (g := gName 2) (tt := tYes) (te := tOp (rI0 fun i j => .int (i + j)) (tCB (fun xs H Q => ∃ p ys, xs = [V.ref p] ∧ (SqL K H p ys ∨ SqT K H p ys) ∧ Q (.int ys.length) H) (tCons (tVar 0) tNil)) (tVar 2)) (by rfl) sc_p_joined.nd (pi_seq (pv 1)) (blkOk_by (N := N_p_joined) (sc := defScope s_p_joined) (by decide +kernel))
        (fun _ _ _ _ _ => pg_name (i := 2) sc_p_joined.nd rfl (.inl rfl)) (fun _ _ _ _ _ => pts_nil)
        (fun _ _ _ _ _ => pe_op op_add (pe_callB call_len_seq (by rfl) T.n_len PySem.boot_len (pa_cons (pv 0) pa_nil)) (pv 2))) pa_nil)))), ?_⟩
    have hA := ha
    rcases ha with ha | ha
    · refine ⟨_, rfl, a, _, rfl, .inl ⟨ha, fun p np => ?_⟩⟩
      have s1 : Same H (upd H p (.tup (nv x))) := same_new np
      have hp : SqT K (upd H p (.tup (nv x))) p (nv x) := .inl (.inl upd_same)
      revert s1 hp; generalize upd H p (.tup (nv x)) = H1; intro s1 hp
      refine ⟨.ref b, rfl, b, rfl, lc_seq' hb s1 fun D nD => ⟨fun i H' => Same H1 H' ∧ H' D = some (.lst (nv ((y.take i).map (x.length + ·)))), ⟨same_new nD, upd_same⟩, fun i H' h => s1.trans h.1, fun i v H' hv h => ?_, fun H' h => ?_⟩⟩
      · obtain ⟨sm, eD⟩ := h
        obtain ⟨z, ez, rfl⟩ := nv_get' hv
        have hi := get_lt ez
        refine ⟨rfl, yes_if ⟨.ref a, rfl, a, nv x, rfl, hA.same (s1.trans sm), _, rfl, _, _, rfl, rfl, _, eD, ?_, fun c o hc => ?_, ?_⟩⟩
        · rw [nv_length, List.length_map]; exact small1000 (Nat.le_trans (List.length_take_le' _ _) hy)
        · rw [upd_ne (ne_of_none hc nD)]; exact sm _ _ hc
        · rw [upd_same, nv_length]; exact congrArg (fun l => some (HO.lst l)) (map_take_nv ez)
      · obtain ⟨sm, eD⟩ := h
        rw [nv_length, List.take_length] at eD
        refine ⟨D, _, rfl, .inl ⟨.inl (.inl eD), fun t nt => ?_⟩⟩
        refine ⟨p, t, nv x, _, rfl, rfl, same_tup (sm.trans (same_new nt)) hp, .inl (.inl upd_same), ?_, ?_, fun z => ?_, fun _ r nr => ?_⟩
        · exact fun z => hx0 (List.map_eq_nil_iff.mp z)
        · rw [nv_length, nv_length, List.length_map]; exact Nat.le_of_lt (line_big (by omega))
        · exact absurd (List.map_eq_nil_iff.mp (List.map_eq_nil_iff.mp z)) hy0
        · refine q _ r (s1.trans (sm.trans ((same_new nt).trans (same_new nr)))) ((s1.trans (sm.trans (same_new nt))).free nr) ?_
          rw [upd_same]
          unfold jnd nv
          rw [List.map_append]
    · refine ⟨_, rfl, a, _, rfl, .inr ⟨ha, ?_⟩⟩
      have s1 : Same H H := Same.refl H
      refine ⟨.ref b, rfl, b, rfl, lc_seq' hb s1 fun D nD => ⟨fun i H' => Same H H' ∧ H' D = some (.lst (nv ((y.take i).map (x.length + ·)))), ⟨same_new nD, upd_same⟩, fun i H' h => s1.trans h.1, fun i v H' hv h => ?_, fun H' h => ?_⟩⟩
      · obtain ⟨sm, eD⟩ := h
        obtain ⟨z, ez, rfl⟩ := nv_get' hv
        have hi := get_lt ez
        refine ⟨rfl, yes_if ⟨.ref a, rfl, a, nv x, rfl, hA.same (s1.trans sm), _, rfl, _, _, rfl, rfl, _, eD, ?_, fun c o hc => ?_, ?_⟩⟩
        · rw [nv_length, List.length_map]; exact small1000 (Nat.le_trans (List.length_take_le' _ _) hy)
        · rw [upd_ne (ne_of_none hc nD)]; exact sm _ _ hc
        · rw [upd_same, nv_length]; exact congrArg (fun l => some (HO.lst l)) (map_take_nv ez)
      · obtain ⟨sm, eD⟩ := h
        rw [nv_length, List.take_length] at eD
        refine ⟨D, _, rfl, .inl ⟨.inl (.inl eD), fun t nt => ?_⟩⟩
        refine ⟨a, t, nv x, _, rfl, rfl, same_tup (sm.trans (same_new nt)) ha, .inl (.inl upd_same), ?_, ?_, fun z => ?_, fun _ r nr => ?_⟩
        · exact fun z => hx0 (List.map_eq_nil_iff.mp z)
        · rw [nv_length, nv_length, List.length_map]; exact Nat.le_of_lt (line_big (by omega))
        · exact absurd (List.map_eq_nil_iff.mp (List.map_eq_nil_iff.mp z)) hy0
        · refine q _ r (s1.trans (sm.trans ((same_new nt).trans (same_new nr)))) ((s1.trans (sm.trans (same_new nt))).free nr) ?_
          rw [upd_same]
          unfold jnd nv
          rw [List.map_append]
end
end Pc
namespace Pc
open PySem PySem.Spec PyProof.Rows L2 RZ
section
variable {P : Program} {w : World} {K : PySem.W.Frag} {mg : Str → Option Value} {base : Heap}
/-! ### renumbered -/
theorem ok_p_renumbered (T : Env K mg) : FnOk P w K mg base CX0 2 T.f_p_renumbered T.d_p_renumbered ["pairing", "numbers"] (spMoved K) := by
  have G : FnOk P w K mg base CX0 1 T.f_p_moved T.d_p_moved ["joins", "places"] (spMoved K) := ok_p_moved T
  refine T.F_p_renumbered.ok sc_p_renumbered (fun vs H Q E h => ?_) (fun cdv A outer s H vs Q E hr h => ?_)
  · obtain ⟨a, p, js, pl, n, rfl, _⟩ := h
    rfl
  · obtain ⟨a, p, js, pl, n, rfl, h⟩ := h
    refine ⟨_, pss_one (ps_ret (pe_call G hr (by rfl) T.g_p_moved T.F_p_moved.kp T.b_p_moved .nil pass0 (pa_cons (pv 0) (pa_cons (pv 1) pa_nil)))), ?_⟩
    exact ⟨_, rfl, _, rfl, a, p, js, pl, n, rfl, h⟩
end
end Pc
namespace Pc
open PySem PySem.Spec PyProof.Rows L2 RZ
/-! ### words with other numbers; those who are left -/
def wrn (pl : List Nat) (qs : List (Nat × Nat)) : List (Nat × Nat) := qs.map fun q => (min (pl.getD q.1 0) (pl.getD q.2 0), max (pl.getD q.1 0) (pl.getD q.2 0))
theorem wrn_take {pl : List Nat} {qs : List (Nat × Nat)} {i : Nat} {q : Nat × Nat} (h : qs[i]? = some q) : (wrn pl qs).take (i + 1) = (wrn pl qs).take i ++ [(min (pl.getD q.1 0) (pl.getD q.2 0), max (pl.getD q.1 0) (pl.getD q.2 0))] := by
  rw [List.take_add_one]
  unfold wrn
  rw [List.getElem?_map, h]; rfl
theorem wrn_len (pl : List Nat) (qs : List (Nat × Nat)) : (wrn pl qs).length = qs.length := by unfold wrn; rw [List.length_map]
theorem min_v (a b : Nat) : V.int (if (b : Int) < (a : Int) then (b : Int) else (a : Int)) = V.int ((min a b : Nat) : Int) := by
  refine congrArg V.int ?_
  split <;> omega
theorem max_v (a b : Nat) : V.int (if (b : Int) > (a : Int) then (b : Int) else (a : Int)) = V.int ((max a b : Nat) : Int) := by
  refine congrArg V.int ?_
  split <;> omega
def ixo : List Nat → Nat → Nat
  | [], _ => 0
  | x :: l, y => if x = y then 0 else ixo l y + 1
theorem ixo_get : ∀ {l : List Nat} {y : Nat}, y ∈ l → l[ixo l y]? = some y ∧ ∀ m z, m < ixo l y → l[m]? = some z → z ≠ y
  | [], _, h => absurd h List.not_mem_nil
  | x :: l, y, h => by
    unfold ixo
    by_cases c : x = y
    · rw [if_pos c]
      exact ⟨by rw [← c]; rfl, fun m z hm => absurd hm (Nat.not_lt_zero _)⟩
    · rw [if_neg c]
      rcases List.mem_cons.mp h with e | e
      · exact absurd e.symm c
      obtain ⟨h1, h2⟩ := ixo_get e
      refine ⟨h1, fun m z hm hz => ?_⟩
      cases m with
      | zero =>
        have : x = z := Option.some.inj hz
        rw [← this]; exact c
      | succ m => exact h2 m z (by omega) hz
def lft (ps : List Nat) (n u : Nat) : List Nat := (List.range n).filter fun x => decide (x ≠ u ∧ x ≠ ps.getD u 0)
theorem lft_mem {ps : List Nat} {n u x : Nat} : x ∈ lft ps n u ↔ x < n ∧ x ≠ u ∧ x ≠ ps.getD u 0 := by
  unfold lft
  rw [List.mem_filter, List.mem_range, decide_eq_true_iff]
theorem lft_part {ps : List Nat} {n u x : Nat} (h : IsPair n ps) (hu : u < n) (hx : x ∈ lft ps n u) : ps.getD x 0 ∈ lft ps n u := by
  obtain ⟨h1, h2, h3⟩ := lft_mem.mp hx
  have d := h.d h1
  have du := h.d hu
  refine lft_mem.mpr ⟨d.1, fun e => h3 ?_, fun e => h2 ?_⟩
  · rw [← e, d.2.2.1]
  · exact h.inj h1 hu e
def wot (ps : List Nat) (n u : Nat) : List Nat := (lft ps n u).map fun x => ixo (lft ps n u) (ps.getD x 0)
theorem lft_step (ps : List Nat) (n u i : Nat) : ((List.range (i + 1)).filter fun x => decide (x ≠ u ∧ x ≠ ps.getD u 0)) = ((List.range i).filter fun x => decide (x ≠ u ∧ x ≠ ps.getD u 0)) ++ if i ≠ u ∧ i ≠ ps.getD u 0 then [i] else [] := by
  rw [List.range_succ, List.filter_append]
  congr 1
  by_cases h : i ≠ u ∧ i ≠ ps.getD u 0
  · rw [if_pos h, List.filter_cons_of_pos (p := fun x => decide (x ≠ u ∧ x ≠ ps.getD u 0)) (decide_eq_true h), List.filter_nil]
  · rw [if_neg h, List.filter_cons_of_neg (p := fun x => decide (x ≠ u ∧ x ≠ ps.getD u 0)) (by rw [decide_eq_false h]; exact Bool.false_ne_true), List.filter_nil]
theorem wot_take {ps : List Nat} {n u i x : Nat} (h : (lft ps n u)[i]? = some x) : nv ((wot ps n u).take i) ++ [V.int (ixo (lft ps n u) (ps.getD x 0) : Nat)] = nv ((wot ps n u).take (i + 1)) := by
  rw [List.take_add_one, show (wot ps n u)[i]? = some (ixo (lft ps n u) (ps.getD x 0)) by unfold wot; rw [List.getElem?_map, h]; rfl]
  unfold nv
  rw [List.map_append]; rfl
theorem lft_le (ps : List Nat) (n u : Nat) : (lft ps n u).length ≤ n := by
  have := List.length_filter_le (fun x => decide (x ≠ u ∧ x ≠ ps.getD u 0)) (List.range n)
  rw [List.length_range] at this
  exact this
theorem eqV_ne {a b : Nat} (h : a ≠ b) : eqV (.int (a : Int)) (.int (b : Int)) = false := by
  unfold eqV
  simp
  omega
theorem eqV_same (a : Int) : eqV (.int a) (.int a) = true := by
  unfold eqV
  simp
end Pc
namespace Pc
open PySem PySem.Spec PyProof.Rows L2 RZ
section
variable {P : Program} {w : World} {K : PySem.W.Frag} {mg : Str → Option Value} {base : Heap}
/-! ### word_renumbered -/
def spWRenum (K : PySem.W.Frag) : Sp := fun vs H Q _ => ∃ (wd nm : Addr) (as : List Addr) (qs : List (Nat × Nat)) (pl : List Nat) (n : Nat), vs = [.ref wd, .ref nm] ∧ Sq K H wd (as.map V.ref) ∧ Prs H as qs ∧ Calls n qs ∧ Sq K H nm (nv pl) ∧ pl.length = n ∧ n ≤ 100 ∧ qs.length ≤ 900 ∧
  ∀ (H' : Hp) (t : Addr) (bs : List Addr), Same H H' → H t = none → H' t = some (.lst (bs.map V.ref)) → Prs H' bs (wrn pl qs) → Q (.ref t) H'
theorem ok_p_word_renumbered (T : Env K mg) : FnOk P w K mg base CX0 4 T.f_p_word_renumbered T.d_p_word_renumbered ["word", "numbers"] (spWRenum K) := by
  have G1 : FnOk P w K mg base CX0 3 T.f_p_check_word T.d_p_check_word ["size", "word"] (spCheckWord K) := ok_p_check_word T
  refine T.F_p_word_renumbered.ok sc_p_word_renumbered (fun vs H Q E h => ?_) (fun cdv A outer s H vs Q E hr h => ?_)
  · obtain ⟨wd, nm, as, qs, pl, n, rfl, _⟩ := h
    rfl
  · obtain ⟨wd, nm, as, qs, pl, n, rfl, hw, hA, hc, hn, hl, hn1, hq, q⟩ := h
    refine ⟨_, pss_cons (ps_expr (pe_call G1 hr (by rfl) T.g_p_check_word T.F_p_check_word.kp T.b_p_check_word .nil pass0 (pa_cons (pe_callB call_len_seq (by rfl) T.n_len PySem.boot_len (pa_cons (pv 1) pa_nil)) (pa_cons (pv 0) pa_nil)))) <|
      pss_one (ps_ret (pe_lc (own := [("a", 2), ("b", 3)]) (g := gTup K 2 (gCons (gName 2) (gCons (gName 3) gNil))) (tt := tYes)
        (te := tTup (tCons (tCB (fun xs H Q => ∃ i j, xs = [V.int i, V.int j] ∧ Q (.int (if j < i then j else i)) H) (tCons (tOp (rIx K) (tVar 1) (tVar 2)) (tCons (tOp (rIx K) (tVar 1) (tVar 3)) tNil))) (tCons (tCB (fun xs H Q => ∃ i j, xs = [V.int i, V.int j] ∧ Q (.int (if j > i then j else i)) H) (tCons (tOp (rIx K) (tVar 1) (tVar 2)) (tCons (tOp (rIx K) (tVar 1) (tVar 3)) tNil))) tNil)))
        (by rfl) sc_p_word_renumbered.nd (pi_seq (pv 0)) (blkOk_by (N := N_p_word_renumbered) (sc := defScope s_p_word_renumbered) (by decide +kernel))
        (fun _ _ _ _ _ => pg_tup (by rfl) (pgs_cons (pg_name (i := 2) sc_p_word_renumbered.nd rfl (.inl rfl)) (pgs_cons (pg_name (i := 3) sc_p_word_renumbered.nd rfl (.inl rfl)) pgs_nil))) (fun _ _ _ _ _ => pts_nil)
        (fun _ _ _ _ _ => pe_tup (pa_cons (pe_callB (call_min2 rfl) (by rfl) T.n_min (by decide +kernel) (pa_cons (pe_ix ix_seq (pv 1) (pv 2) (fun _ _ => rfl)) (pa_cons (pe_ix ix_seq (pv 1) (pv 3) (fun _ _ => rfl)) pa_nil))) (pa_cons (pe_callB (call_max2 rfl) (by rfl) T.n_max (by decide +kernel) (pa_cons (pe_ix ix_seq (pv 1) (pv 2) (fun _ _ => rfl)) (pa_cons (pe_ix ix_seq (pv 1) (pv 3) (fun _ _ => rfl)) pa_nil))) pa_nil))))), ?_⟩
    refine ⟨_, rfl, nm, _, rfl, hn, _, rfl, n, wd, _, qs, ?_, hw, items_of hA, hc, ?_⟩
    · show [V.int ((nv pl).length : Int), V.ref wd] = _
      rw [nv_length, hl]
    refine ⟨.ref wd, rfl, wd, rfl, lc_seq' hw (Same.refl H) fun D nD => ⟨fun i H' => Same H H' ∧ ∃ es : List Addr, H' D = some (.lst (es.map V.ref)) ∧ Prs H' es ((wrn pl qs).take i), ⟨same_new nD, [], upd_same, .nil⟩, fun i H' h => h.1, fun i v H' hv h => ?_, fun H' h => ?_⟩⟩
    · obtain ⟨sm, es, eD, hE⟩ := h
      rw [List.getElem?_map] at hv
      obtain ⟨u, hu, rfl⟩ := Option.map_eq_some_iff.mp hv
      obtain ⟨r, hr', exu⟩ := prs_get hA hu
      have hcr := hc r (List.mem_of_getElem? hr')
      have g1 : atI (nv pl) (r.1 : Int) = some (.int (pl.getD r.1 0 : Nat)) := nv_at (getD_some (by omega))
      have g2 : atI (nv pl) (r.2 : Int) = some (.int (pl.getD r.2 0 : Nat)) := nv_at (getD_some (by omega))
      have hn2 := hn.same sm
      refine ⟨u, _, rfl, .inl (.inl (sm _ _ exu)), rfl, _, _, rfl, _, _, rfl, rfl, rfl, yes_if ⟨_, rfl, _, rfl, ix_sq hn2 g1 ⟨_, rfl, _, rfl, ix_sq hn2 g2 ⟨_, _, rfl, _, rfl, _, rfl, ix_sq hn2 g1 ⟨_, rfl, _, rfl, ix_sq hn2 g2 ⟨_, _, rfl, by show 2 ≤ sizeLine; decide, fun z nz => ?_⟩⟩⟩⟩⟩⟩
      rw [min_v, max_v]
      refine ⟨_, same_new nz _ _ eD, ?_, fun y o hy => ?_, es ++ [z], ?_, ?_⟩
      · rw [List.length_map, hE.length]; exact small1000 (Nat.le_trans (List.length_take_le' _ _) (by rw [wrn_len]; omega))
      · rw [upd_ne (ne_of_none hy nD)]; exact same_new nz _ _ (sm _ _ hy)
      · rw [upd_same, List.map_append]; rfl
      · have zD : z ≠ D := fun e => by rw [e, eD] at nz; cases nz
        rw [wrn_take hr']
        refine prs_append (prs_keep (b := D) keep_upd (same_new nz _ _ eD) (prs_same (same_new nz) hE)) (.cons ?_ .nil)
        rw [upd_ne zD, upd_same]
    · obtain ⟨sm, es, eD, hE⟩ := h
      rw [List.length_map, hA.length, ← wrn_len pl qs, List.take_length] at hE
      exact q _ D es sm nD eD hE
end
end Pc
namespace Pc
theorem jn_getD {n : Nat} {f : List Nat} (hf : IsPair n f) {a b : Nat} (hab : a ≠ b) (ha : a < n) (hb : b < n) (hc : f.getD a 0 ≠ b) {z : Nat} (hz : z < n) :
    (jn f a b).getD z 0 = if z = a then b else if z = b then a else if z = f.getD a 0 then f.getD b 0 else if z = f.getD b 0 then f.getD a 0 else f.getD z 0 := by
  have e := jn_get hf hab (hf.d ha).2.2.2 (hf.d hb).2.2.2 hc z
  rw [List.getD_eq_getElem?_getD, e]
  split
  · rfl
  · split
    · rfl
    · split
      · rfl
      · split
        · rfl
        · rw [List.getD_eq_getElem?_getD]
theorem pair_ext {m : Nat} {f g : List Nat} (hf : IsPair m f) (hg : IsPair m g) (h : ∀ z, z < m → f.getD z 0 = g.getD z 0) : f = g := by
  refine List.ext_getElem? fun i => ?_
  by_cases hi : i < m
  · rw [(hf.d hi).2.2.2, (hg.d hi).2.2.2, h i hi]
  · rw [List.getElem?_eq_none (by rw [hf.len]; omega), List.getElem?_eq_none (by rw [hg.len]; omega)]
theorem emp_os {n y : Nat} (h : y < 2 * n) : (emp n).getD y 0 = os n y := by
  unfold os
  by_cases c : y < n
  · rw [if_pos c, getD_of (emp_lo c)]; omega
  · obtain ⟨e, rfl⟩ : ∃ e, y = n + e := ⟨y - n, by omega⟩
    rw [if_neg c, getD_of (emp_hi (show e < n by omega))]; omega
theorem mir_call {n a b : Nat} (hab : a < b) (hb : b < n) : mir (jn (emp n) (n + a) (n + b)) n = jn (emp n) (n + a) (n + b) := by
  have hn : 0 < n := by omega
  have hE := emp_pair hn
  have ea : (emp n).getD (n + a) 0 = a := by rw [emp_os (by omega)]; unfold os; rw [if_neg (by omega)]; omega
  have eb : (emp n).getD (n + b) 0 = b := by rw [emp_os (by omega)]; unfold os; rw [if_neg (by omega)]; omega
  have hJ := jn_pair hE (show n + a ≠ n + b by omega) (by omega) (by omega)
  have G : ∀ z, z < 2 * n → (jn (emp n) (n + a) (n + b)).getD z 0 = if z = n + a then n + b else if z = n + b then n + a else if z = a then b else if z = b then a else os n z := fun z hz => by
    rw [jn_getD hE (by omega) (by omega) (by omega) (by rw [ea]; omega) hz, ea, eb, emp_os hz]
  refine pair_ext (mir_pair hJ) hJ fun z hz => ?_
  have ho : os n z < 2 * n := os_lt hz
  rw [mir_d _ hz, G _ ho, G z hz]
  unfold os
  (repeat' split) <;> omega
theorem mir_word {n : Nat} (hn : 0 < n) : ∀ {qs : List (Nat × Nat)}, Calls n qs → mir (shw n qs (emp n)) n = shw n qs.reverse (emp n)
  | [], _ => mir_emp
  | q :: r, hc => by
    have hq := hc q List.mem_cons_self
    have hr : Calls n r := fun x hx => hc x (List.mem_cons_of_mem _ hx)
    have hrr : Calls n r.reverse := fun x hx => hr x (List.mem_reverse.mp hx)
    have h1 : Calls n [q] := fun x hx => by rw [List.mem_singleton.mp hx]; exact hq
    have hJ : IsPair (2 * n) (shw n [q] (emp n)) := shw_pair (emp_pair hn) h1
    have hR : IsPair (2 * n) (shw n r (emp n)) := shw_pair (emp_pair hn) hr
    have e : shw n (q :: r) (emp n) = fol (shw n [q] (emp n)) (shw n r (emp n)) n := by
      rw [fol_word hn hJ hr, ← shw_app]; rfl
    have m1 : mir (shw n [q] (emp n)) n = shw n [q] (emp n) := mir_call hq.1 hq.2
    rw [e, mir_fol hJ hR, m1, mir_word hn hr, fol_word hn (shw_pair (emp_pair hn) hrr) h1, ← shw_app, List.reverse_cons]
end Pc
namespace Pc
open PySem PySem.Spec PyProof.Rows L2 RZ
/-! ### recurrence of two sequences beside each other, and with other numbers -/
/-- from b on it recurs, each q steps, and no earlier and no sooner -/
def Rh (x : Nat → List Nat) (b q : Nat) : Prop := 0 < q ∧ ∀ c r, 0 < r → (x (c + r) = x c ↔ b ≤ c ∧ q ∣ r)
theorem Rh.det {x : Nat → List Nat} {b q c r : Nat} (h : Rh x b q) (g : Rh x c r) : b = c ∧ q = r := by
  obtain ⟨h1, h2⟩ := (g.2 b q h.1).mp ((h.2 b q h.1).mpr ⟨Nat.le_refl _, Nat.dvd_refl _⟩)
  obtain ⟨g1, g2⟩ := (h.2 c r g.1).mp ((g.2 c r g.1).mpr ⟨Nat.le_refl _, Nat.dvd_refl _⟩)
  exact ⟨by omega, Nat.dvd_antisymm g2 h2⟩
theorem rec_ex {x : Nat → List Nat} : ∀ (L : Nat), (∃ a, a < L ∧ x L = x a) → ∃ L a, a < L ∧ x L = x a ∧ ∀ i j, i < L → j < L → x i = x j → i = j := by
  intro L
  induction L using Nat.strongRecOn with
  | _ L ih =>
    intro ⟨a, ha, e⟩
    by_cases c : ∃ M, M < L ∧ ∃ a, a < M ∧ x M = x a
    · obtain ⟨M, hM, h⟩ := c
      exact ih M hM h
    · refine ⟨L, a, ha, e, fun i j hi hj hij => ?_⟩
      rcases Nat.lt_trichotomy i j with k | k | k
      · exact absurd ⟨j, hj, i, k, hij.symm⟩ c
      · exact k
      · exact absurd ⟨i, hi, j, k, hij⟩ c
theorem Stl.rh {f : List Nat} {n : Nat} {x : Nat → List Nat} {b q p : Nat} {F : List Nat → List Nat} (hF : ∀ k, x (k + 1) = F (x k)) (h : Stl f n x b q p) : Rh x b q := by
  have hq := h.pos
  obtain ⟨L, j, h1, h2, h3⟩ := rec_ex (x := x) (b + q) ⟨b, by omega, h.rec_⟩
  have r := fun {b q : Nat} (hq : 0 < q) => rho hF h1 h2 h3 (b := b) (q := q) hq
  have key : b = j ∧ q = L - j := by
    obtain ⟨h1, h2⟩ := (r h.pos).mp h.rec_
    have hb : b = j := by
      rcases Nat.lt_or_ge j b with c | c
      · exact absurd ((r h.per.pos).mpr ⟨Nat.le_refl _, Nat.dvd_trans h2 h.dv⟩) (h.fst j c)
      · omega
    refine ⟨hb, last_per h.per h.dv h2 fun e e1 e2 e3 e4 => ?_⟩
    have hp : 0 < q / e := Nat.div_pos (Nat.le_of_dvd h.pos e3) (by omega)
    exact h.mn e e1 e2 e3 ((r hp).mpr ⟨h1, e4⟩)
  obtain ⟨e1, e2⟩ := key
  rw [e1, e2]
  exact ⟨by omega, fun c s hs => r hs⟩
theorem jnd_inj {a b c d : List Nat} (hl : a.length = c.length) (e : jnd a b = jnd c d) : a = c ∧ b = d := by
  unfold jnd at e
  obtain ⟨h1, h2⟩ := List.append_inj e hl
  refine ⟨h1, ?_⟩
  rw [hl] at h2
  exact List.map_inj_right (fun _ _ h => by omega) |>.mp h2
theorem rh_join {x y : Nat → List Nat} {b q c r n : Nat} (hx : ∀ k, (x k).length = n) (h : Rh x b q) (g : Rh y c r) : Rh (fun k => jnd (x k) (y k)) (max b c) (Nat.lcm q r) := by
  refine ⟨Nat.lcm_pos h.1 g.1, fun k s hs => ?_⟩
  show jnd (x (k + s)) (y (k + s)) = jnd (x k) (y k) ↔ _
  constructor
  · intro e
    obtain ⟨e1, e2⟩ := jnd_inj (by rw [hx, hx]) e
    obtain ⟨a1, a2⟩ := (h.2 k s hs).mp e1
    obtain ⟨b1, b2⟩ := (g.2 k s hs).mp e2
    exact ⟨by omega, Nat.lcm_dvd a2 b2⟩
  · intro ⟨e1, e2⟩
    rw [(h.2 k s hs).mpr ⟨by omega, Nat.dvd_trans (Nat.dvd_lcm_left q r) e2⟩, (g.2 k s hs).mpr ⟨by omega, Nat.dvd_trans (Nat.dvd_lcm_right q r) e2⟩]
theorem rh_mvd {x X : Nat → List Nat} {pl : List Nat} {n b q : Nat} (hp : pl.Perm (List.range n)) (hx : ∀ k, IsPair n (x k)) (hm : ∀ k, Mvd n (x k) pl (X k)) (h : Rh x b q) : Rh X b q := by
  have key : ∀ i j, X i = X j ↔ x i = x j := fun i j => by
    constructor
    · intro e
      refine list_d (by rw [(hx i).len, (hx j).len]) fun z hz => ?_
      rw [(hx i).len] at hz
      have e1 := (hm i).at_ z hz
      rw [e, (hm j).at_ z hz] at e1
      exact (pm_inj hp ((hx j).d hz).1 ((hx i).d hz).1 e1).symm
    · intro e
      exact (hm i).det hp (by rw [e]; exact hm j)
  exact ⟨h.1, fun c r hr => (key _ _).trans (h.2 c r hr)⟩
/-! ### runs of calls beside each other -/
theorem jn_jnd1 {n a b : Nat} {p q : List Nat} (hp : IsPair n p) (ha : a < n) (hb : b < n) : jn (jnd p q) a b = jnd (jn p a b) q := by
  have hl := hp.len
  obtain ⟨a1, _⟩ := hp.d ha
  obtain ⟨b1, _⟩ := hp.d hb
  have ea : (jnd p q).getD a 0 = p.getD a 0 := jnd_lo (by omega)
  have eb : (jnd p q).getD b 0 = p.getD b 0 := jnd_lo (by omega)
  by_cases c : p.getD a 0 = b
  · unfold jn
    rw [ea, if_pos c, if_pos c]
  · have e : jn p a b = (((p.set a b).set b a).set (p.getD a 0) (p.getD b 0)).set (p.getD b 0) (p.getD a 0) := if_neg c
    have e2 : jn (jnd p q) a b = ((((jnd p q).set a b).set b a).set ((jnd p q).getD a 0) ((jnd p q).getD b 0)).set ((jnd p q).getD b 0) ((jnd p q).getD a 0) := if_neg (by rw [ea]; exact c)
    rw [e2, ea, eb]
    have hjl : (jn p a b).length = p.length := jn_len p a b
    unfold jnd
    rw [hjl, e]
    rw [List.set_append_left _ _ (by omega), List.set_append_left _ _ (by rw [List.length_set]; omega), List.set_append_left _ _ (by rw [List.length_set, List.length_set]; omega), List.set_append_left _ _ (by rw [List.length_set, List.length_set, List.length_set]; omega)]
theorem set_shift {n : Nat} {p q : List Nat} (hl : p.length = n) (i v : Nat) : (p ++ q.map (n + ·)).set (n + i) (n + v) = p ++ (q.set i v).map (n + ·) := by
  rw [List.set_append_right _ _ (by omega), hl, Nat.add_sub_cancel_left, List.map_set]
theorem jn_jnd2 {n m a b : Nat} {p q : List Nat} (hl : p.length = n) (hq : IsPair m q) (ha : a < m) (hb : b < m) : jn (jnd p q) (n + a) (n + b) = jnd p (jn q a b) := by
  have hm := hq.len
  have ea : (jnd p q).getD (n + a) 0 = n + q.getD a 0 := by rw [← hl]; exact jnd_hi (by omega)
  have eb : (jnd p q).getD (n + b) 0 = n + q.getD b 0 := by rw [← hl]; exact jnd_hi (by omega)
  by_cases c : q.getD a 0 = b
  · unfold jn
    rw [ea, if_pos c, if_pos (by omega)]
  · have e : jn q a b = (((q.set a b).set b a).set (q.getD a 0) (q.getD b 0)).set (q.getD b 0) (q.getD a 0) := if_neg c
    have e2 : jn (jnd p q) (n + a) (n + b) = ((((jnd p q).set (n + a) (n + b)).set (n + b) (n + a)).set ((jnd p q).getD (n + a) 0) ((jnd p q).getD (n + b) 0)).set ((jnd p q).getD (n + b) 0) ((jnd p q).getD (n + a) 0) := if_neg (by rw [ea]; omega)
    rw [e2, ea, eb, e]
    unfold jnd
    rw [hl, set_shift hl, set_shift hl, set_shift hl, set_shift hl]
def shW (n : Nat) (qs : List (Nat × Nat)) : List (Nat × Nat) := qs.map fun q => (n + q.1, n + q.2)
theorem shW_take {n i : Nat} {qs : List (Nat × Nat)} {q : Nat × Nat} (h : qs[i]? = some q) : (shW n qs).take (i + 1) = (shW n qs).take i ++ [(n + q.1, n + q.2)] := by
  rw [List.take_add_one]
  unfold shW
  rw [List.getElem?_map, h]; rfl
theorem shW_len (n : Nat) (qs : List (Nat × Nat)) : (shW n qs).length = qs.length := by unfold shW; rw [List.length_map]
theorem shW_calls {n m : Nat} {t u : List (Nat × Nat)} (ht : Calls n t) (hu : Calls m u) : Calls (n + m) (t ++ shW n u) := fun z hz => by
  rcases List.mem_append.mp hz with h | h
  · have := ht z h; omega
  · obtain ⟨y, hy, rfl⟩ := List.mem_map.mp h
    have := hu y hy
    show n + y.1 < n + y.2 ∧ n + y.2 < n + m
    omega
theorem runs_cat (qs rs : List (Nat × Nat)) (ps : List Nat) : runs (qs ++ rs) ps = runs rs (runs qs ps) := by
  unfold runs; rw [List.foldl_append]
theorem runs_cons (c : Nat × Nat) (t : List (Nat × Nat)) (p : List Nat) : runs (c :: t) p = runs t (jn p c.1 c.2) := rfl
theorem runs_j1 {n : Nat} {q : List Nat} : ∀ {t : List (Nat × Nat)} {p : List Nat}, IsPair n p → Calls n t → runs t (jnd p q) = jnd (runs t p) q
  | [], _, _, _ => rfl
  | c :: t, p, hp, hc => by
    have h := hc c (List.mem_cons_self ..)
    rw [runs_cons, runs_cons, jn_jnd1 hp (by omega) (by omega)]
    exact runs_j1 (jn_pair hp (by omega) (by omega) (by omega)) (fun z hz => hc z (List.mem_cons_of_mem _ hz))
theorem runs_j2 {n m : Nat} {p : List Nat} (hl : p.length = n) : ∀ {u : List (Nat × Nat)} {q : List Nat}, IsPair m q → Calls m u → runs (shW n u) (jnd p q) = jnd p (runs u q)
  | [], _, _, _ => rfl
  | c :: t, q, hq, hc => by
    have h := hc c (List.mem_cons_self ..)
    rw [show shW n (c :: t) = (n + c.1, n + c.2) :: shW n t from rfl, runs_cons, runs_cons, jn_jnd2 hl hq (by omega) (by omega)]
    exact runs_j2 hl (jn_pair hq (by omega) (by omega) (by omega)) (fun z hz => hc z (List.mem_cons_of_mem _ hz))
theorem rns_jnd {n m : Nat} {p q : List Nat} {t u : List (Nat × Nat)} (hp : IsPair n p) (hq : IsPair m q) (ht : Calls n t) (hu : Calls m u) : ∀ k, rns (t ++ shW n u) (jnd p q) k = jnd (rns t p k) (rns u q k)
  | 0 => rfl
  | k + 1 => by
    show runs (t ++ shW n u) (rns (t ++ shW n u) (jnd p q) k) = jnd (runs t (rns t p k)) (runs u (rns u q k))
    have h1 := rns_pair hp ht k
    rw [rns_jnd hp hq ht hu k, runs_cat, runs_j1 h1 ht, runs_j2 (runs_pair _ h1 ht).len (rns_pair hq hu k) hu]
theorem rns_twice {p : List Nat} {t : List (Nat × Nat)} : ∀ k, rns (t ++ t) p k = rns t p (2 * k)
  | 0 => rfl
  | k + 1 => by
    show runs (t ++ t) (rns (t ++ t) p k) = runs t (runs t (rns t p (2 * k)))
    rw [rns_twice k, runs_cat]
/-! ### other numbers -/
theorem jn_comm {n a b : Nat} {p : List Nat} (hp : IsPair n p) (hab : a ≠ b) (ha : a < n) (hb : b < n) : jn p a b = jn p b a := by
  obtain ⟨a1, a2, a3, _⟩ := hp.d ha
  obtain ⟨b1, b2, b3, _⟩ := hp.d hb
  by_cases c : p.getD a 0 = b
  · unfold jn
    rw [if_pos c, if_pos (by rw [← c, a3])]
  · have c2 : p.getD b 0 ≠ a := fun e => c (by rw [← e, b3])
    refine list_d (by rw [jn_len, jn_len]) fun z hz => ?_
    rw [jn_len, hp.len] at hz
    rw [jn_getD hp hab ha hb c hz, jn_getD hp (Ne.symm hab) hb ha c2 hz]
    by_cases e1 : z = a
    · subst e1; rw [if_pos rfl, if_neg hab, if_pos rfl]
    rw [if_neg e1]
    by_cases e2 : z = b
    · subst e2; rw [if_pos rfl, if_pos rfl]
    rw [if_neg e2, if_neg e2, if_neg e1]
    by_cases e3 : z = p.getD a 0
    · rw [if_pos e3, if_neg (fun e => hab (by rw [← a3, ← e3, e, b3])), if_pos e3]
    rw [if_neg e3]
    by_cases e4 : z = p.getD b 0
    · rw [if_pos e4, if_pos e4]
    rw [if_neg e4, if_neg e4, if_neg e3]
theorem mvd_jn {n a b : Nat} {p pl r : List Nat} (hl : pl.Perm (List.range n)) (hp : IsPair n p) (h : Mvd n p pl r) (hab : a ≠ b) (ha : a < n) (hb : b < n) : Mvd n (jn p a b) pl (jn r (pl.getD a 0) (pl.getD b 0)) := by
  have hr := h.pair hl hp
  obtain ⟨a1, a2, a3, _⟩ := hp.d ha
  obtain ⟨b1, b2, b3, _⟩ := hp.d hb
  have e1 := h.at_ a ha
  have e2 := h.at_ b hb
  by_cases c : p.getD a 0 = b
  · have c2 : r.getD (pl.getD a 0) 0 = pl.getD b 0 := by rw [e1, c]
    unfold jn
    rw [if_pos c, if_pos c2]; exact h
  · have c2 : r.getD (pl.getD a 0) 0 ≠ pl.getD b 0 := fun e => c (pm_inj hl a1 hb (by rw [← e1, e]))
    have hne : pl.getD a 0 ≠ pl.getD b 0 := fun e => hab (pm_inj hl ha hb e)
    refine ⟨by rw [jn_len]; exact h.len, fun i hi => ?_⟩
    rw [jn_getD hp hab ha hb c hi, jn_getD hr hne (pm_lt hl ha) (pm_lt hl hb) c2 (pm_lt hl hi), e1, e2, h.at_ i hi]
    have inj : ∀ {u : Nat}, u < n → (pl.getD i 0 = pl.getD u 0 ↔ i = u) := fun hu => ⟨fun e => pm_inj hl hi hu e, fun e => by rw [e]⟩
    simp only [inj ha, inj hb, inj a1, inj b1]
    split
    · rfl
    · split
      · rfl
      · split
        · rfl
        · split <;> rfl
theorem runs_mvd {n : Nat} {pl : List Nat} (hl : pl.Perm (List.range n)) : ∀ {t : List (Nat × Nat)} {p r : List Nat}, IsPair n p → Calls n t → Mvd n p pl r → Mvd n (runs t p) pl (runs (wrn pl t) r)
  | [], _, _, _, _, h => h
  | c :: t, p, r, hp, hc, h => by
    have k := hc c (List.mem_cons_self ..)
    have hne : pl.getD c.1 0 ≠ pl.getD c.2 0 := fun e => absurd (pm_inj hl (by omega) (by omega) e) (by omega)
    rw [show wrn pl (c :: t) = (min (pl.getD c.1 0) (pl.getD c.2 0), max (pl.getD c.1 0) (pl.getD c.2 0)) :: wrn pl t from rfl, runs_cons, runs_cons]
    have e : jn r (min (pl.getD c.1 0) (pl.getD c.2 0)) (max (pl.getD c.1 0) (pl.getD c.2 0)) = jn r (pl.getD c.1 0) (pl.getD c.2 0) := by
      rcases Nat.le_total (pl.getD c.1 0) (pl.getD c.2 0) with q | q
      · rw [Nat.min_eq_left q, Nat.max_eq_right q]
      · rw [Nat.min_eq_right q, Nat.max_eq_left q]
        exact jn_comm (h.pair hl hp) (Ne.symm hne) (pm_lt hl (by omega)) (pm_lt hl (by omega))
    show Mvd n (runs t (jn p c.1 c.2)) pl (runs (wrn pl t) (jn r (min (pl.getD c.1 0) (pl.getD c.2 0)) (max (pl.getD c.1 0) (pl.getD c.2 0))))
    rw [e]
    exact runs_mvd hl (jn_pair hp (by omega) (by omega) (by omega)) (fun z hz => hc z (List.mem_cons_of_mem _ hz)) (mvd_jn hl hp h (by omega) (by omega) (by omega))
theorem rns_mvd {n : Nat} {pl p r : List Nat} {t : List (Nat × Nat)} (hl : pl.Perm (List.range n)) (hp : IsPair n p) (hc : Calls n t) (h : Mvd n p pl r) : ∀ k, Mvd n (rns t p k) pl (rns (wrn pl t) r k)
  | 0 => h
  | k + 1 => runs_mvd hl (rns_pair hp hc k) hc (rns_mvd hl hp hc h k)
theorem wrn_calls {n : Nat} {pl : List Nat} {t : List (Nat × Nat)} (hl : pl.Perm (List.range n)) (hc : Calls n t) : Calls n (wrn pl t) := fun z hz => by
  obtain ⟨c, hy, rfl⟩ := List.mem_map.mp hz
  have k := hc c hy
  have hne : pl.getD c.1 0 ≠ pl.getD c.2 0 := fun e => absurd (pm_inj hl (by omega) (by omega) e) (by omega)
  have h1 := pm_lt hl (i := c.1) (by omega)
  have h2 := pm_lt hl (i := c.2) (by omega)
  show min (pl.getD c.1 0) (pl.getD c.2 0) < max (pl.getD c.1 0) (pl.getD c.2 0) ∧ max (pl.getD c.1 0) (pl.getD c.2 0) < n
  omega
theorem ft_lt {x : Nat → List Nat} {b q u v k : Nat} (h : Rh x b q) (g : FT x u v (some k)) : k < b + q := by
  rcases Nat.lt_or_ge k (b + q) with c | c
  · exact c
  · have hq := h.1
    have e := (h.2 (k - q) q hq).mpr ⟨by omega, Nat.dvd_refl _⟩
    rw [show k - q + q = k by omega] at e
    exact absurd (by rw [← e]; exact g.1) (g.2 (k - q) (by omega))
theorem gcd_lcm {a b g : Nat} (e : Nat.gcd g 0 = Nat.gcd a b) : a * b / g = Nat.lcm a b := by
  rw [Nat.gcd_zero_right] at e
  rw [e]; rfl
end Pc
namespace Pc
open PySem PySem.Spec PyProof.Rows L2 RZ
section
variable {P : Program} {w : World} {K : PySem.W.Frag} {mg : Str → Option Value} {base : Heap}
/-! ### the least common multiple, by the law -/
def spMult : Sp := fun vs H Q _ => ∃ (a b : Nat), vs = [.int a, .int b] ∧ 1 ≤ a ∧ 1 ≤ b ∧ a ≤ 1000000000 ∧ b ≤ 1000000000 ∧ Q (.int ((Nat.lcm a b : Nat) : Int)) H
theorem ok_multiple (T : Env K mg) : FnOk P w K mg base CX0 1 T.f_multiple T.d_multiple ["_law_one_of_two", "_law_two_of_two"] spMult := by
  refine T.F_multiple.ok sc_multiple (fun vs H Q E h => ?_) (fun cdv A outer s H vs Q E hr h => ?_)
  · obtain ⟨a, b, rfl, _⟩ := h
    rfl
  · obtain ⟨a, b, rfl, ha, hb, ha2, hb2, q⟩ := h
    refine ⟨_, pss_cons (ps_par (i := 2) (j := 3) (by rfl) sc_multiple.nd rfl rfl (by decide) rfl rfl (pa_cons (pv 0) (pa_cons (pv 1) pa_nil)) (by rfl)) <|
      pss_cons (ps_while PassesOwn.never (pt_cmpR op_ne (pv 3) pe_int (nomark _))
        (pss_one (ps_par (i := 2) (j := 3) (by rfl) sc_multiple.nd rfl rfl (by decide) rfl rfl (pa_cons (pv 3) (pa_cons (pe_op op_mod (pv 2) (pv 3)) pa_nil)) (by rfl)))) <|
      pss_one (ps_ret (pe_op op_fdiv (pe_op op_mul (pv 0) (pv 1)) (pv 2))), ?_⟩
    refine ⟨_, rfl, _, rfl, _, _, rfl, ?_⟩
    refine st_set [some (.int a), some (.int b), some (.int a), some (.int b)] ?_ rfl
    refine ⟨fun m σ H' => ∃ u : Nat, σ = [some (.int a), some (.int b), some (.int u), some (.int (m : Nat))] ∧ H' = H ∧ Nat.gcd u m = Nat.gcd a b, ⟨b, a, rfl, rfl, rfl⟩, fun m σ H' hW => ?_⟩
    obtain ⟨u, rfl, rfl, hg⟩ := hW
    refine ⟨_, rfl, rfl, _, rfl, ite2 (fun c => ?_) (fun c => ?_)⟩
    · have hm : 0 < m := by
        rcases Nat.eq_zero_or_pos m with z | z
        · subst z; rw [decide_eq_true (show V.int ((0 : Nat) : Int) = V.int 0 from rfl)] at c; cases c
        · exact z
      refine ⟨fun σ' H2 => ∃ v : Nat, σ' = [some (.int a), some (.int b), some (.int v), some (.int (u % m : Nat))] ∧ H2 = H' ∧ Nat.gcd v (u % m) = Nat.gcd a b, fun σ' H2 h2 => ⟨u % m, Nat.mod_lt _ hm, h2⟩, ?_⟩
      refine ⟨_, rfl, _, rfl, _, rfl, _, _, rfl, rfl, (show (0 : Int) < (m : Nat) by omega), ⟨_, _, rfl, ?_⟩⟩
      refine ⟨m, ?_, rfl, ?_⟩
      · rw [show (fun i j => V.int (i % j)) (u : Int) (m : Int) = V.int ((u % m : Nat) : Int) from congrArg V.int (by omega)]; rfl
      · rw [← hg, Nat.gcd_comm u m, Nat.gcd_rec m u, Nat.gcd_comm]
    · have hm : m = 0 := by
        by_cases z : m = 0
        · exact z
        · exact absurd (by rw [show decide (V.int (m : Int) = V.int 0) = false from decide_eq_false (fun e => z (by have := V.int.inj e; omega))]; rfl) c
      subst hm
      have hgp : 0 < Nat.gcd a b := Nat.gcd_pos_of_pos_left _ ha
      have hgl : Nat.gcd a b ≤ a := Nat.gcd_le_left _ ha
      have hgu : u = Nat.gcd a b := by rw [← hg, Nat.gcd_zero_right]
      have hle : a * b ≤ 1000000000 * 1000000000 := Nat.mul_le_mul ha2 hb2
      have e1 : ((a : Int) * (b : Int)) = ((a * b : Nat) : Int) := (Int.natCast_mul _ _).symm
      refine ⟨_, rfl, _, rfl, _, _, rfl, rfl, .inl ⟨by omega, by omega⟩, _, rfl, _, _, rfl, rfl, ⟨by omega, by omega⟩, ?_⟩
      show Q (.int ((a : Int) * (b : Int) / (u : Nat))) H'
      rw [e1, ← Int.natCast_ediv, gcd_lcm hg]
      exact q
end
end Pc
namespace Pc
open PySem PySem.Spec PyProof.Rows L2 RZ
section
variable {P : Program} {w : World} {K : PySem.W.Frag} {mg : Str → Option Value} {base : Heap}
theorem Rh.few {x : Nat → List Nat} {b q n : Nat} (h : Rh x b q) (hn : n ≤ 14) (he : n % 2 = 0) (hp : ∀ i, IsPair n (x i)) : b + q ≤ 135135 := by
  have key : ∀ i j, i < j → j < b + q → x i ≠ x j := fun i j hij hj e => by
    obtain ⟨c1, c2⟩ := (h.2 i (j - i) (by omega)).mp (by rw [show i + (j - i) = j by omega]; exact e.symm)
    have := Nat.le_of_dvd (by omega) c2
    omega
  refine seq_few (n := n) (x := x) hn he hp fun i j hi hj e => ?_
  rcases Nat.lt_trichotomy i j with c | c | c
  · exact absurd e (key i j c hj)
  · exact c
  · exact absurd e.symm (key j i c hi)
/-! ### a first time, or none -/
def spFirstR (K : PySem.W.Frag) : Sp := fun vs H Q _ => ∃ (b a t : Addr) (ps : List Nat) (as : List Addr) (qs : List (Nat × Nat)) (n k : Nat), vs = [.ref b, .ref a, .ref t] ∧ Box (k + 5) H b ∧ H a = some (.tup (nv ps)) ∧ IsPair n ps ∧ 2 ≤ n ∧ n ≤ 10 ∧ n % 2 = 0 ∧ t ≠ b ∧ H t = some (.lst (as.map V.ref)) ∧ Prs H as qs ∧ Calls n qs ∧
  ∀ H', Keep b H H' → Box k H' b → Q (.bl true) H'
theorem ok_first_right (T : Env K mg) : FnOk P w K mg base CX0 8 T.f_first_right T.d_first_right ["_law_box_here", "_law_tie", "_law_tour"] (spFirstR K) := by
  have GT : FnOk P w K mg base CX0 2 T.f_take T.d_take ["_law_box_here", "_law_below"] spTakeW := ok_takeW T
  have GO : FnOk P w K mg base CX0 2 T.f_pick T.d_pick ["_law_box_here", "_law_some"] (spOf K) := ok_pick T
  have GA : FnOk P w K mg base CX0 1 T.f_calls T.d_calls ["_law_size"] spCalls := ok_calls T
  have GR : FnOk P w K mg base CX0 6 T.f_p_repeated T.d_p_repeated ["pairing", "word", "many"] (spRepeated K) := ok_p_repeated T
  have GF : FnOk P w K mg base CX0 7 T.f_p_first_time T.d_p_first_time ["pairing", "word", "person", "partner"] (spFirst K) := ok_p_first_time T
  have GS : FnOk P w K mg base CX0 7 T.f_p_settles T.d_p_settles ["pairing", "word"] (spSettles K) := ok_p_settles T
  refine T.F_first_right.ok sc_first_right (fun vs H Q E h => ?_) (fun cdv A outer s H vs Q E hr h => ?_)
  · obtain ⟨b, a, t, ps, as, qs, n, k, rfl, _⟩ := h
    rfl
  · obtain ⟨b, a, t, ps, as, qs, n, k, rfl, hB, ea, hp, h2n, hn, hev, tb, et, hA, hc, q⟩ := h
    have h1 := hr.mono (show 1 ≤ 7 by decide)
    have h2 := hr.mono (show 2 ≤ 7 by decide)
    have h6 := hr.mono (show 6 ≤ 7 by decide)
    refine ⟨_, pss_cons (ps_asg (pe_call GO h2 (by rfl) T.g_pick T.F_pick.kp T.b_pick .nil pass0 (pa_cons (pv 0) (pa_cons (pe_call GA h1 (by rfl) T.g_calls T.F_calls.kp T.b_calls .nil pass0 (pa_cons (pe_callB call_len_seq (by rfl) T.n_len PySem.boot_len (pa_cons (pv 1) pa_nil)) pa_nil)) pa_nil))) (pg_tup rfl (pgs_cons (pg_name (i := 3) sc_first_right.nd rfl (.inr rfl)) (pgs_cons (pg_name (i := 4) sc_first_right.nd rfl (.inr rfl)) pgs_nil)))) <|
      pss_cons (ps_asg (pe_tup (pa_cons (pe_call GF hr (by rfl) T.g_p_first_time T.F_p_first_time.kp T.b_p_first_time .nil pass0 (pa_cons (pv 1) (pa_cons (pv 2) (pa_cons (pv 3) (pa_cons (pv 4) pa_nil))))) (pa_cons (pe_call GS hr (by rfl) T.g_p_settles T.F_p_settles.kp T.b_p_settles .nil pass0 (pa_cons (pv 1) (pa_cons (pv 2) pa_nil))) pa_nil))) (pg_tup rfl (pgs_cons (pg_name (i := 5) sc_first_right.nd rfl (.inl rfl)) (pgs_cons (pg_tup rfl (pgs_cons (pg_name (i := 6) sc_first_right.nd rfl (.inl rfl)) (pgs_cons (pg_name (i := 7) sc_first_right.nd rfl (.inl rfl)) pgs_nil))) pgs_nil)))) <|
      pss_cons (ps_if (pt_cmpR op_isN (pv 5) pe_non (nomark _)) (pss_cons (ps_set (i := 8) sc_first_right.nd rfl (.inl rfl) (pe_lst (pa_cons pe_int (pa_cons (pv 6) (pa_cons (pe_op op_add (pv 6) (pe_call GT h2 (by rfl) T.g_take T.F_take.kp T.b_take .nil pass0 (pa_cons (pv 0) (pa_cons (pv 7) pa_nil)))) (pa_cons (pe_call GT h2 (by rfl) T.g_take T.F_take.kp T.b_take .nil pass0 (pa_cons (pv 0) (pa_cons (pe_op op_pow pe_int pe_int) pa_nil))) pa_nil)))))) <|
        pss_one (ps_ret (pe_callB (cr_all rfl) (by rfl) T.n_all (by decide +kernel) (pa_cons (pe_lc (own := [("_law_at", 9)]) (g := gName 9) (tt := tYes) (te := tOp rNe (tOp (rIxT K) (tCall (spRepeated K) [] (fun _ _ _ => False) (tCons (tVar 1) (tCons (tVar 2) (tCons (tVar 9) tNil)))) (tVar 3)) (tVar 4)) rfl sc_first_right.nd (pi_seq (pv 8)) (blkOk_by (N := N_first_right) (sc := defScope s_first_right) (by decide +kernel)) (fun _ _ _ _ _ => (pg_name (i := 9) sc_first_right.nd rfl (.inl rfl))) (fun _ _ _ _ _ => pts_nil) (fun _ _ _ _ _ => pe_cmpR op_ne (pe_ix ix_tup (pe_call GR h6 (by rfl) T.g_p_repeated T.F_p_repeated.kp T.b_p_repeated .nil pass0 (pa_cons (pv 1) (pa_cons (pv 2) (pa_cons (pv 9) pa_nil)))) (pv 3) (fun _ _ => rfl)) (pv 4) (nomark _))) pa_nil)))) pss_nil) <|
      pss_cons (ps_if (PW.pt (pw_or (pt_cmpR op_ge (pv 5) (pe_op op_add (pv 6) (pv 7)) (nomark _)) (pw_or1 (pt_cmpR op_ne (pe_ix ix_tup (pe_call GR h6 (by rfl) T.g_p_repeated T.F_p_repeated.kp T.b_p_repeated .nil pass0 (pa_cons (pv 1) (pa_cons (pv 2) (pa_cons (pv 5) pa_nil)))) (pv 3) (fun _ _ => rfl)) (pv 4) (nomark _))))) (pss_one (ps_ret pe_bl)) pss_nil) <|
      pss_one (ps_ret (pe_callB (cr_all rfl) (by rfl) T.n_all (by decide +kernel) (pa_cons (pe_lc (own := [("_law_at", 9)]) (g := gName 9) (tt := tYes) (te := tOp rNe (tOp (rIxT K) (tCall (spRepeated K) [] (fun _ _ _ => False) (tCons (tVar 1) (tCons (tVar 2) (tCons (tVar 9) tNil)))) (tVar 3)) (tVar 4)) rfl sc_first_right.nd (pi_range2 (by rfl) T.n_range (pa_cons (pe_callB (call_max2 rfl) (by rfl) T.n_max (by decide +kernel) (pa_cons pe_int (pa_cons (pe_op op_sub (pv 5) pe_int) pa_nil))) (pa_cons (pv 5) pa_nil))) (blkOk_by (N := N_first_right) (sc := defScope s_first_right) (by decide +kernel)) (fun _ _ _ _ _ => (pg_name (i := 9) sc_first_right.nd rfl (.inl rfl))) (fun _ _ _ _ _ => pts_nil) (fun _ _ _ _ _ => pe_cmpR op_ne (pe_ix ix_tup (pe_call GR h6 (by rfl) T.g_p_repeated T.F_p_repeated.kp T.b_p_repeated .nil pass0 (pa_cons (pv 1) (pa_cons (pv 2) (pa_cons (pv 9) pa_nil)))) (pv 3) (fun _ _ => rfl)) (pv 4) (nomark _))) pa_nil))), ?_⟩
    have hn0 : 0 < n := by omega
    have hf : IsPair (2 * n) (shw n qs (emp n)) := shw_pair (emp_pair hn0) hc
    have hlen : (allC n n).length ≤ 1000 := Nat.le_trans (allC_len n n) (Nat.le_trans (Nat.mul_le_mul hn hn) (by decide))
    have hpos : 0 < (allC n n).length := List.length_pos_of_mem (allC_mem.mpr (show ((0, 1) : Nat × Nat).1 < n ∧ ((0, 1) : Nat × Nat).1 < ((0, 1) : Nat × Nat).2 ∧ ((0, 1) : Nat × Nat).2 < n from ⟨by show 0 < n; omega, by decide, by show 1 < n; omega⟩))
    refine ⟨.ref b, rfl, .ref a, rfl, a, _, rfl, .inr (.inl (.inl ea)), n, by show [V.int ((nv ps).length : Int)] = _; rw [nv_length, hp.len], by omega, fun H1 l cs s1 nl el hC => ?_⟩
    have hcl : (cs.map V.ref).length = (allC n n).length := by rw [List.length_map, hC.length]
    refine ⟨b, l, k + 4, _, rfl, hB.same s1, (hB.ne_new nl).symm, el, by rw [hcl]; exact hpos, by rw [hcl]; exact hlen, fun H2 i v hv k2 hB2 => ?_⟩
    rw [List.getElem?_map] at hv
    cases eu : cs[i]? with
    | none => rw [eu] at hv; cases hv
    | some tp =>
    rw [eu] at hv
    cases Option.some.inj hv
    obtain ⟨⟨u, v⟩, ep, htp⟩ := prs_get hC eu
    obtain ⟨yb, hyb⟩ := hB.lst
    have hyb1 := s1 _ _ hyb
    have htp2 := k2.tup hyb1 htp
    obtain ⟨huv, hv2⟩ := allC_calls n n (u, v) (List.mem_of_getElem? ep)
    have hu : u < n := Nat.lt_trans huv hv2
    have hv : v < n := hv2
    have ea2 := k2.tup hyb1 (s1 _ _ ea)
    have et2 := k2 _ _ tb (s1 _ _ et)
    have hA2 := prs_keep k2 hyb1 (prs_same s1 hA)
    have kH : Keep b H H2 := (Keep.of_same s1).trans k2
    clear hA et ea htp hC el eu hyb1 hyb
    refine ⟨tp, _, rfl, .inl (.inl htp2), rfl, _, _, rfl, _, _, rfl, rfl, ?_⟩
    refine st_set [some (.ref b), some (.ref a), some (.ref t), some (.int (u : Nat)), some (.int (v : Nat)), none, none, none, none, none] ?_ rfl
    refine ⟨.ref a, rfl, .ref t, rfl, _, rfl, _, rfl, a, t, ps, n, u, v, _, qs, rfl, .inr (.inl (.inl ea2)), hp, h2n, by omega, hu, hv, .inl (.inl (.inl et2)), items_of hA2, hc, fun H3 o hF s3 => ?_⟩
    have ea3 := s3 _ _ ea2
    have et3 := s3 _ _ et2
    have hA3 := prs_same s3 hA2
    refine ⟨.ref a, rfl, .ref t, rfl, a, t, ps, n, _, qs, rfl, .inr (.inl (.inl ea3)), hp, hn0, by omega, .inl (.inl (.inl et3)), items_of hA3, hc, fun H4 c bq qq pp hS s4 nc ec => ?_⟩
    refine ⟨by show 2 ≤ sizeLine; decide, fun m nm => ?_⟩
    have s5 : Same H4 (upd H4 m (.tup [oV o, .ref c])) := same_new nm
    have em : upd H4 m (.tup [oV o, .ref c]) m = some (.tup [oV o, .ref c]) := upd_same
    revert s5 em
    generalize upd H4 m (.tup [oV o, .ref c]) = H5
    intro s5 em
    have s25 : Same H2 H5 := (s3.trans s4).trans s5
    have ec5 := s5 _ _ ec
    have ea5 := s25 _ _ ea2
    have et5 := s25 _ _ et2
    have hA5 := prs_same s25 hA2
    have hB5 := hB2.same s25
    replace kH := kH.trans (Keep.of_same s25)
    refine ⟨m, _, rfl, .inl (.inl em), rfl, _, _, rfl, _, _, rfl, c, _, rfl, .inl (.inl ec5), rfl, _, _, rfl, _, _, rfl, rfl, rfl, ?_⟩
    clear em ec5 ec ea2 et2 hA2 ea3 et3 hA3 htp2
    have hF0 : ∀ k, rns qs ps (k + 1) = runs qs (rns qs ps k) := fun _ => rfl
    have hR := hS.rh hF0
    have hq1 := hS.pos
    have hql : qq ≤ 232792560 := Nat.le_trans (Nat.le_of_dvd hS.per.pos hS.dv) (hS.per.le (by omega))
    have step : ∀ (D : Addr) (i o : Nat) (H' : Hp) (e : (rns qs ps o).getD u 0 ≠ v), Same H5 H' → H' D = some (.lst (List.replicate i (.bl true))) → H5 D = none → True := fun _ _ _ _ _ _ _ _ => trivial
    clear step
    cases o with
    | none =>
      refine st_set [some (.ref b), some (.ref a), some (.ref t), some (.int (u : Nat)), some (.int (v : Nat)), some .non, some (.int (bq : Nat)), some (.int (qq : Nat)), none, none] ?_ rfl
      refine ⟨_, rfl, rfl, _, rfl, ?_⟩
      rw [show decide (V.non = V.non) = true from decide_eq_true rfl]
      refine iteT ?_
      refine ⟨_, rfl, _, rfl, .ref b, rfl, _, rfl, b, k + 2, (qq : Int), rfl, hB5.mono (by omega), by omega, by omega, fun r1 H6 a1 a2 hB6 k6 => ?_⟩
      obtain ⟨r1, rfl⟩ : ∃ z : Nat, r1 = (z : Int) := ⟨r1.toNat, by omega⟩
      obtain ⟨yb, hyb⟩ := hB5.lst
      have ea6 := k6.tup hyb ea5
      have et6 := k6 _ _ tb et5
      have hA6 := prs_keep k6 hyb hA5
      replace kH := kH.trans k6
      refine ⟨_, _, rfl, rfl, .ref b, rfl, 10, 11, rfl, rfl, ⟨by decide, by decide, by decide⟩, b, k, ((10 : Int) ^ Int.toNat 11), rfl, hB6.mono (by omega), by decide, by decide, fun r2 H7 a3 a4 hB7 k7 => ?_⟩
      obtain ⟨r2, rfl⟩ : ∃ z : Nat, r2 = (z : Int) := ⟨r2.toNat, by omega⟩
      obtain ⟨yb, hyb⟩ := hB6.lst
      have ea7 := k7.tup hyb ea6
      have et7 := k7 _ _ tb et6
      have hA7 := prs_keep k7 hyb hA6
      replace kH := kH.trans k7
      refine ⟨by show 4 ≤ sizeLine; decide, fun l2 nl2 => ?_⟩
      have s8 := same_new (o := .lst [.int 0, .int (bq : Nat), .int ((bq : Int) + (r1 : Int)), .int (r2 : Int)]) nl2
      have e8 : upd H7 l2 (.lst [.int 0, .int (bq : Nat), .int ((bq : Int) + (r1 : Int)), .int (r2 : Int)]) l2 = some (.lst [.int 0, .int (bq : Nat), .int ((bq : Int) + (r1 : Int)), .int (r2 : Int)]) := upd_same
      revert s8 e8
      generalize upd H7 l2 (.lst [.int 0, .int (bq : Nat), .int ((bq : Int) + (r1 : Int)), .int (r2 : Int)]) = H8
      intro s8 e8
      have ea8 := s8 _ _ ea7
      have et8 := s8 _ _ et7
      have hA8 := prs_same s8 hA7
      have hB8 := hB7.same s8
      replace kH := kH.trans (Keep.of_same s8)
      refine st_set [some (.ref b), some (.ref a), some (.ref t), some (.int (u : Nat)), some (.int (v : Nat)), some .non, some (.int (bq : Nat)), some (.int (qq : Nat)), some (.ref l2), none] ?_ rfl
      refine ⟨.ref l2, rfl, l2, rfl, lc_seq' (.inl (.inl (.inl e8))) (Same.refl H8) fun D nD => ⟨fun i H' => Same H8 H' ∧ H' D = some (.lst (List.replicate i (.bl true))), ⟨same_new nD, upd_same⟩, fun i H' h => h.1, fun i x H' hx h => ?_, fun H' h => ?_⟩⟩
      · obtain ⟨sm, eD⟩ := h
        have hi : i < 4 := get_lt hx
        obtain ⟨o, rfl⟩ : ∃ o : Nat, x = .int o := by
          rcases (show i = 0 ∨ i = 1 ∨ i = 2 ∨ i = 3 by omega) with z | z | z | z
          · subst z; exact ⟨0, (Option.some.inj hx).symm⟩
          · subst z; exact ⟨bq, (Option.some.inj hx).symm⟩
          · subst z; exact ⟨bq + r1, (Option.some.inj hx).symm⟩
          · subst z; exact ⟨r2, (Option.some.inj hx).symm⟩
        refine ⟨rfl, yes_if ⟨_, rfl, _, rfl, _, rfl, a, t, ps, _, qs, n, o, rfl, .inr (.inl (.inl (sm _ _ ea8))), hp, hn0, by omega, .inl (.inl (.inl (sm _ _ et8))), items_of (prs_same sm hA8), hc, fun H9 tt s9 nt ett => ?_⟩⟩
        rw [← rns_rd hn0 hp hc] at ett
        refine ⟨_, rfl, tt, _, _, _, rfl, rfl, .inl (.inl ett), nv_at ((rns_pair hp hc o).d hu).2.2.2, _, rfl, rfl, _, s9 _ _ eD, ?_, fun y oo hy => ?_, ?_⟩
        · rw [List.length_replicate]; exact small1000 (by omega)
        · rw [upd_ne (ne_of_none hy nD)]; exact s9 _ _ (sm _ _ hy)
        · rw [upd_same, List.replicate_succ', decide_eq_false (fun e => hF o (by have := V.int.inj e; omega))]; rfl
      · obtain ⟨sm, eD⟩ := h
        refine ⟨D, List.replicate 4 true, rfl, by rw [List.map_replicate]; exact .inl (.inl eD), ?_⟩
        rw [all_rep]
        exact q _ (kH.trans (Keep.of_same sm)) ((hB8.same sm).mono (by omega))
    | some k0 =>
      obtain ⟨f1, f2⟩ := hF
      have hlt := ft_lt hR ⟨f1, f2⟩
      have hBq := hR.few (by omega) hev (rns_pair hp hc)
      refine st_set [some (.ref b), some (.ref a), some (.ref t), some (.int (u : Nat)), some (.int (v : Nat)), some (.int (k0 : Nat)), some (.int (bq : Nat)), some (.int (qq : Nat)), none, none] ?_ rfl
      refine ⟨_, rfl, rfl, _, rfl, ?_⟩
      rw [show decide (V.int (k0 : Nat) = V.non) = false from decide_eq_false (fun e => by cases e)]
      refine iteF ?_
      refine ⟨_, rfl, _, rfl, _, rfl, _, _, rfl, rfl, _, _, rfl, rfl, _, rfl, iteX (decide_eq_false (by omega)) ?_⟩
      refine ⟨_, rfl, _, rfl, _, rfl, a, t, ps, _, qs, n, k0, rfl, .inr (.inl (.inl ea5)), hp, hn0, by omega, .inl (.inl (.inl et5)), items_of hA5, hc, fun H6 tt s6 nt ett => ?_⟩
      rw [← rns_rd hn0 hp hc] at ett
      refine ⟨_, rfl, tt, _, _, _, rfl, rfl, .inl (.inl ett), nv_at ((rns_pair hp hc k0).d hu).2.2.2, _, rfl, rfl, _, rfl, iteX (fi_same (by rw [f1])) ?_⟩
      clear ett nt
      have ea6 := s6 _ _ ea5
      have et6 := s6 _ _ et5
      have hA6 := prs_same s6 hA5
      have hB6 := hB5.same s6
      replace kH := kH.trans (Keep.of_same s6)
      have hm : ∃ m : Nat, (if (k0 : Int) - 3 > 0 then (k0 : Int) - 3 else 0) = (m : Int) ∧ m ≤ k0 ∧ k0 ≤ m + 3 := by
        split
        · exact ⟨k0 - 3, by omega, by omega, by omega⟩
        · exact ⟨0, rfl, by omega, by omega⟩
      obtain ⟨m0, em, hm1, hm2⟩ := hm
      refine ⟨_, rfl, _, _, rfl, rfl, _, _, rfl, ?_⟩
      rw [em]
      refine ⟨_, rfl, _, _, rfl, ⟨by omega, by omega, by omega, by omega⟩, fun D nD => ?_⟩
      rw [show ((k0 : Int) - (m0 : Int)).toNat = k0 - m0 by omega]
      refine lc_range (n := k0 - m0) (fun i H' => Same H6 H' ∧ H' D = some (.lst (List.replicate i (.bl true)))) ⟨same_new nD, upd_same⟩ (fun i H' hi h => ?_) (fun H' h => ?_)
      · obtain ⟨sm, eD⟩ := h
        rw [show (m0 : Int) + (i : Nat) = ((m0 + i : Nat) : Int) by omega]
        refine ⟨rfl, yes_if ⟨_, rfl, _, rfl, _, rfl, a, t, ps, _, qs, n, m0 + i, rfl, .inr (.inl (.inl (sm _ _ ea6))), hp, hn0, by omega, .inl (.inl (.inl (sm _ _ et6))), items_of (prs_same sm hA6), hc, fun H9 tt s9 nt ett => ?_⟩⟩
        rw [← rns_rd hn0 hp hc] at ett
        refine ⟨_, rfl, tt, _, _, _, rfl, rfl, .inl (.inl ett), nv_at ((rns_pair hp hc (m0 + i)).d hu).2.2.2, _, rfl, rfl, _, s9 _ _ eD, ?_, fun y oo hy => ?_, ?_⟩
        · rw [List.length_replicate]; exact small1000 (by omega)
        · rw [upd_ne (ne_of_none hy nD)]; exact s9 _ _ (sm _ _ hy)
        · rw [upd_same, List.replicate_succ', decide_eq_false (fun e => f2 (m0 + i) (by omega) (by have := V.int.inj e; omega))]; rfl
      · obtain ⟨sm, eD⟩ := h
        refine ⟨D, List.replicate (k0 - m0) true, rfl, by rw [List.map_replicate]; exact .inl (.inl eD), ?_⟩
        rw [all_rep]
        exact q _ (kH.trans (Keep.of_same sm)) ((hB6.same sm).mono (by omega))
end
end Pc
namespace Pc
open PySem PySem.Spec PyProof.Rows L2 RZ
section
variable {P : Program} {w : World} {K : PySem.W.Frag} {mg : Str → Option Value} {base : Heap}
def spRight : Sp := fun vs H Q _ => ∃ (b : Addr) (n : Nat), vs = [.ref b] ∧ Box (n + 1000) H b ∧ ∀ H', Keep b H H' → Box n H' b → Q (.bl true) H'
theorem ok_right (T : Env K mg) : FnOk P w K mg base CX0 9 T.f_right T.d_right ["_law_box_here"] spRight := by
  have GT : FnOk P w K mg base CX0 1 T.f_take T.d_take ["_law_box_here", "_law_below"] spTake := ok_take T
  have GD : FnOk P w K mg base CX0 3 T.f_drawn_tie T.d_drawn_tie ["_law_box_here", "_law_size"] spTie := ok_drawn_tie T
  have GO : FnOk P w K mg base CX0 3 T.f_tour_of T.d_tour_of ["_law_box_here", "_law_size", "_law_most"] spTour := ok_tour_of T
  have GTw : FnOk P w K mg base CX0 2 T.f_take T.d_take ["_law_box_here", "_law_below"] spTakeW := ok_takeW T
  have GP : FnOk P w K mg base CX0 2 T.f_pick T.d_pick ["_law_box_here", "_law_some"] (spOf K) := ok_pick T
  have Gh : FnOk P w K mg base CX0 2 T.f_strewn T.d_strewn ["_law_box_here", "_law_some"] (spStrewn K) := ok_strewn T
  have GRp : FnOk P w K mg base CX0 6 T.f_p_repeated T.d_p_repeated ["pairing", "word", "many"] (spRepeated K) := ok_p_repeated T
  have Gs : FnOk P w K mg base CX0 7 T.f_p_settles T.d_p_settles ["pairing", "word"] (spSettles K) := ok_p_settles T
  have GMu : FnOk P w K mg base CX0 1 T.f_multiple T.d_multiple ["_law_one_of_two", "_law_two_of_two"] spMult := ok_multiple T
  have GF1 : FnOk P w K mg base CX0 8 T.f_first_right T.d_first_right ["_law_box_here", "_law_tie", "_law_tour"] (spFirstR K) := ok_first_right T
  have Gj : FnOk P w K mg base CX0 1 T.f_p_joined T.d_p_joined ["one", "other"] (spJoined K) := ok_p_joined T
  have Gn : FnOk P w K mg base CX0 2 T.f_p_renumbered T.d_p_renumbered ["pairing", "numbers"] (spMoved K) := ok_p_renumbered T
  have Gw : FnOk P w K mg base CX0 4 T.f_p_word_renumbered T.d_p_word_renumbered ["word", "numbers"] (spWRenum K) := ok_p_word_renumbered T
  refine T.F_right.ok sc_right (fun vs H Q E h => ?_) (fun cdv A outer s H vs Q E hr h => ?_)
  · obtain ⟨b, n, rfl, _⟩ := h
    rfl
  · obtain ⟨b, n, rfl, hB, q⟩ := h
    have h1 := hr.mono (show 1 ≤ 8 by decide)
    have h2 := hr.mono (show 2 ≤ 8 by decide)
    have h3 := hr.mono (show 3 ≤ 8 by decide)
    have h4 := hr.mono (show 4 ≤ 8 by decide)
    have h5 := hr.mono (show 5 ≤ 8 by decide)
    have h6 := hr.mono (show 6 ≤ 8 by decide)
    have h7 := hr.mono (show 7 ≤ 8 by decide)
    have kH : Keep b H H := Keep.refl _ _
    refine ⟨_, pss_cons (ps_asg (pe_tup (pa_cons (pe_op op_add pe_int (pe_op op_mul pe_int (pe_call GT h1 (by rfl) T.g_take T.F_take.kp T.b_take .nil pass0 (pa_cons (pv 0) (pa_cons pe_int pa_nil))))) (pa_cons (pe_op op_add pe_int (pe_op op_mul pe_int (pe_call GT h1 (by rfl) T.g_take T.F_take.kp T.b_take .nil pass0 (pa_cons (pv 0) (pa_cons pe_int pa_nil))))) pa_nil))) (pg_tup rfl (pgs_cons (pg_name (i := 1) sc_right.nd rfl (.inr rfl)) (pgs_cons (pg_name (i := 2) sc_right.nd rfl (.inl rfl)) pgs_nil)))) <|
      pss_cons (ps_par (i := 3) (j := 4) (by rfl) sc_right.nd rfl rfl (by decide) rfl rfl (pa_cons (pe_call GD h3 (by rfl) T.g_drawn_tie T.F_drawn_tie.kp T.b_drawn_tie .nil pass0 (pa_cons (pv 0) (pa_cons (pv 1) pa_nil))) (pa_cons (pe_call GD h3 (by rfl) T.g_drawn_tie T.F_drawn_tie.kp T.b_drawn_tie .nil pass0 (pa_cons (pv 0) (pa_cons (pv 2) pa_nil))) pa_nil)) (by rfl)) <|
      pss_cons (ps_par (i := 5) (j := 6) (by rfl) sc_right.nd rfl rfl (by decide) rfl rfl (pa_cons (pe_call GO h3 (by rfl) T.g_tour_of T.F_tour_of.kp T.b_tour_of .nil pass0 (pa_cons (pv 0) (pa_cons (pv 1) (pa_cons pe_int pa_nil)))) (pa_cons (pe_call GO h3 (by rfl) T.g_tour_of T.F_tour_of.kp T.b_tour_of .nil pass0 (pa_cons (pv 0) (pa_cons (pv 2) (pa_cons pe_int pa_nil)))) pa_nil)) (by rfl)) <|
      pss_cons (ps_par (i := 7) (j := 8) (by rfl) sc_right.nd rfl rfl (by decide) rfl rfl (pa_cons (pe_call GTw h2 (by rfl) T.g_take T.F_take.kp T.b_take .nil pass0 (pa_cons (pv 0) (pa_cons (pe_op op_pow pe_int pe_int) pa_nil))) (pa_cons (pe_call GTw h2 (by rfl) T.g_take T.F_take.kp T.b_take .nil pass0 (pa_cons (pv 0) (pa_cons (pe_call GP h2 (by rfl) T.g_pick T.F_pick.kp T.b_pick .nil pass0 (pa_cons (pv 0) (pa_cons (pe_lst (pa_cons pe_int (pa_cons (pe_op op_pow pe_int pe_int) pa_nil))) pa_nil))) pa_nil))) pa_nil)) (by rfl)) <|
      pss_cons (ps_set (i := 9) sc_right.nd rfl (.inl rfl) (pe_lst (pa_cons (pe_call GRp h6 (by rfl) T.g_p_repeated T.F_p_repeated.kp T.b_p_repeated .nil pass0 (pa_cons (pe_call GRp h6 (by rfl) T.g_p_repeated T.F_p_repeated.kp T.b_p_repeated .nil pass0 (pa_cons (pv 3) (pa_cons (pv 5) (pa_cons (pv 7) pa_nil)))) (pa_cons (pv 5) (pa_cons (pv 8) pa_nil)))) (pa_cons (pe_call GRp h6 (by rfl) T.g_p_repeated T.F_p_repeated.kp T.b_p_repeated .nil pass0 (pa_cons (pv 3) (pa_cons (pe_op op_cat (pv 5) (pv 5)) (pa_cons (pv 8) pa_nil)))) pa_nil)))) <|
      pss_cons (ps_if (pt_cmpR (op_neD hr.units) (pv 9) (pe_lst (pa_cons (pe_call GRp h6 (by rfl) T.g_p_repeated T.F_p_repeated.kp T.b_p_repeated .nil pass0 (pa_cons (pv 3) (pa_cons (pv 5) (pa_cons (pe_op op_add (pv 7) (pv 8)) pa_nil)))) (pa_cons (pe_call GRp h6 (by rfl) T.g_p_repeated T.F_p_repeated.kp T.b_p_repeated .nil pass0 (pa_cons (pv 3) (pa_cons (pv 5) (pa_cons (pe_op op_mul pe_int (pv 8)) pa_nil)))) pa_nil))) (nomark _)) (pss_one (ps_ret pe_bl)) pss_nil) <|
      pss_cons (ps_par (i := 10) (j := 11) (by rfl) sc_right.nd rfl rfl (by decide) rfl rfl (pa_cons (pe_call Gj h1 (by rfl) T.g_p_joined T.F_p_joined.kp T.b_p_joined .nil pass0 (pa_cons (pv 3) (pa_cons (pv 4) pa_nil))) (pa_cons (pe_op op_cat (pv 5) (pe_lc (own := [("_law_low", 19), ("_law_high", 20)]) (g := gTup K 2 (gCons (gName 19) (gCons (gName 20) gNil))) (tt := tYes) (te := tTup (tCons (tOp (rI0 fun i j => .int (i + j)) (tVar 1) (tVar 19)) (tCons (tOp (rI0 fun i j => .int (i + j)) (tVar 1) (tVar 20)) tNil))) (by rfl) sc_right.nd (pi_list (pv 6)) (blkOk_by (N := N_right) (sc := defScope s_right) (by decide +kernel)) (fun _ _ _ _ _ => pg_tup (by rfl) (pgs_cons (pg_name (i := 19) sc_right.nd rfl (.inl rfl)) (pgs_cons (pg_name (i := 20) sc_right.nd rfl (.inl rfl)) pgs_nil))) (fun _ _ _ _ _ => pts_nil) (fun _ _ _ _ _ => pe_tup (pa_cons (pe_op op_add (pv 1) (pv 19)) (pa_cons (pe_op op_add (pv 1) (pv 20)) pa_nil))))) pa_nil)) (by rfl)) <|
      pss_cons (ps_if (pt_cmpR (op_neD hr.units) (pe_call GRp h6 (by rfl) T.g_p_repeated T.F_p_repeated.kp T.b_p_repeated .nil pass0 (pa_cons (pv 10) (pa_cons (pv 11) (pa_cons (pv 8) pa_nil)))) (pe_call Gj h1 (by rfl) T.g_p_joined T.F_p_joined.kp T.b_p_joined .nil pass0 (pa_cons (pe_call GRp h6 (by rfl) T.g_p_repeated T.F_p_repeated.kp T.b_p_repeated .nil pass0 (pa_cons (pv 3) (pa_cons (pv 5) (pa_cons (pv 8) pa_nil)))) (pa_cons (pe_call GRp h6 (by rfl) T.g_p_repeated T.F_p_repeated.kp T.b_p_repeated .nil pass0 (pa_cons (pv 4) (pa_cons (pv 6) (pa_cons (pv 8) pa_nil)))) pa_nil))) (nomark _)) (pss_one (ps_ret pe_bl)) pss_nil) <|
      pss_cons (ps_asg (pe_tup (pa_cons (pe_call Gs h7 (by rfl) T.g_p_settles T.F_p_settles.kp T.b_p_settles .nil pass0 (pa_cons (pv 3) (pa_cons (pv 5) pa_nil))) (pa_cons (pe_call Gs h7 (by rfl) T.g_p_settles T.F_p_settles.kp T.b_p_settles .nil pass0 (pa_cons (pv 4) (pa_cons (pv 6) pa_nil))) pa_nil))) (pg_tup rfl (pgs_cons (pg_tup rfl (pgs_cons (pg_name (i := 12) sc_right.nd rfl (.inl rfl)) (pgs_cons (pg_name (i := 13) sc_right.nd rfl (.inl rfl)) pgs_nil))) (pgs_cons (pg_tup rfl (pgs_cons (pg_name (i := 14) sc_right.nd rfl (.inl rfl)) (pgs_cons (pg_name (i := 15) sc_right.nd rfl (.inl rfl)) pgs_nil))) pgs_nil)))) <|
      pss_cons (ps_if (pt_cmpR (op_neD hr.units) (pe_call Gs h7 (by rfl) T.g_p_settles T.F_p_settles.kp T.b_p_settles .nil pass0 (pa_cons (pv 10) (pa_cons (pv 11) pa_nil))) (pe_tup (pa_cons (pe_callB (call_max2 rfl) (by rfl) T.n_max (by decide +kernel) (pa_cons (pv 12) (pa_cons (pv 14) pa_nil))) (pa_cons (pe_call GMu h1 (by rfl) T.g_multiple T.F_multiple.kp T.b_multiple .nil pass0 (pa_cons (pv 13) (pa_cons (pv 15) pa_nil))) pa_nil))) (nomark _)) (pss_one (ps_ret pe_bl)) pss_nil) <|
      pss_cons (ps_set (i := 16) sc_right.nd rfl (.inl rfl) (pe_callTy call_tuple_of (by rfl) T.n_tuple (by decide +kernel) (pa_cons (pe_call Gh h2 (by rfl) T.g_strewn T.F_strewn.kp T.b_strewn .nil pass0 (pa_cons (pv 0) (pa_cons (pe_listRg rfl (by rfl) T.n_list (prg_1 (by rfl) T.n_range (pv 1))) pa_nil))) pa_nil))) <|
      pss_cons (ps_par (i := 17) (j := 18) (by rfl) sc_right.nd rfl rfl (by decide) rfl rfl (pa_cons (pe_call Gn h2 (by rfl) T.g_p_renumbered T.F_p_renumbered.kp T.b_p_renumbered .nil pass0 (pa_cons (pv 3) (pa_cons (pv 16) pa_nil))) (pa_cons (pe_call Gw h4 (by rfl) T.g_p_word_renumbered T.F_p_word_renumbered.kp T.b_p_word_renumbered .nil pass0 (pa_cons (pv 5) (pa_cons (pv 16) pa_nil))) pa_nil)) (by rfl)) <|
      pss_cons (ps_if (pt_cmpR (op_neD hr.units) (pe_call GRp h6 (by rfl) T.g_p_repeated T.F_p_repeated.kp T.b_p_repeated .nil pass0 (pa_cons (pv 17) (pa_cons (pv 18) (pa_cons (pv 7) pa_nil)))) (pe_call Gn h2 (by rfl) T.g_p_renumbered T.F_p_renumbered.kp T.b_p_renumbered .nil pass0 (pa_cons (pe_call GRp h6 (by rfl) T.g_p_repeated T.F_p_repeated.kp T.b_p_repeated .nil pass0 (pa_cons (pv 3) (pa_cons (pv 5) (pa_cons (pv 7) pa_nil)))) (pa_cons (pv 16) pa_nil))) (nomark _)) (pss_one (ps_ret pe_bl)) pss_nil) <|
      pss_cons (ps_if (pt_cmpR (op_neD hr.units) (pe_call Gs h7 (by rfl) T.g_p_settles T.F_p_settles.kp T.b_p_settles .nil pass0 (pa_cons (pv 17) (pa_cons (pv 18) pa_nil))) (pe_tup (pa_cons (pv 12) (pa_cons (pv 13) pa_nil))) (nomark _)) (pss_one (ps_ret pe_bl)) pss_nil) <|
      pss_one (ps_ret (pe_and (pe_call GF1 hr (by rfl) T.g_first_right T.F_first_right.kp T.b_first_right .nil pass0 (pa_cons (pv 0) (pa_cons (pv 3) (pa_cons (pv 5) pa_nil)))) (pe_one (pe_call GF1 hr (by rfl) T.g_first_right T.F_first_right.kp T.b_first_right .nil pass0 (pa_cons (pv 0) (pa_cons (pv 4) (pa_cons (pv 6) pa_nil))))))), ?_⟩
    refine ⟨_, rfl, b, n + 999, 5, rfl, hB.mono (by omega), by decide, by decide, fun r1 H2 ra3 rb4 hB5 k6 => ?_⟩
    obtain ⟨y_hy7, hy7⟩ := hB.lst
    clear hB
    have hB := hB5
    replace kH := kH.trans k6
    refine ⟨_, _, rfl, rfl, .inl ⟨by omega, by omega⟩, _, _, rfl, rfl, ?_⟩
    have hn : 2 + 2 * r1.toNat ≤ 10 := by omega
    have hn2 : 2 ≤ 2 + 2 * r1.toNat := by omega
    have hev : (2 + 2 * r1.toNat) % 2 = 0 := by omega
    rw [show (fun i j => V.int (i + j)) 2 ((fun i j => i * j) 2 r1) = V.int ((2 + 2 * r1.toNat : Nat) : Int) from congrArg V.int (show (2 + 2 * r1 : Int) = _ by omega)]
    revert hn hn2 hev; generalize 2 + 2 * r1.toNat = N; intro hn hn2 hev
    have n1 := hn; have n2 := hn2; have nev := hev; clear hn hn2 hev
    refine ⟨_, rfl, b, n + 998, 5, rfl, hB.mono (by omega), by decide, by decide, fun r8 H9 ra10 rb11 hB12 k13 => ?_⟩
    obtain ⟨y_hy14, hy14⟩ := hB.lst
    clear hB
    have hB := hB12
    replace kH := kH.trans k13
    refine ⟨_, _, rfl, rfl, .inl ⟨by omega, by omega⟩, _, _, rfl, rfl, ?_⟩
    have hn : 2 + 2 * r8.toNat ≤ 10 := by omega
    have hn2 : 2 ≤ 2 + 2 * r8.toNat := by omega
    have hev : (2 + 2 * r8.toNat) % 2 = 0 := by omega
    rw [show (fun i j => V.int (i + j)) 2 ((fun i j => i * j) 2 r8) = V.int ((2 + 2 * r8.toNat : Nat) : Int) from congrArg V.int (show (2 + 2 * r8 : Int) = _ by omega)]
    revert hn hn2 hev; generalize 2 + 2 * r8.toNat = M; intro hn hn2 hev
    have m1 := hn; have m2 := hn2; have mev := hev; clear hn hn2 hev
    refine ⟨(by show 2 ≤ sizeLine; decide), fun l15 nl15 => ?_⟩
    have s16 : Same H9 (upd H9 l15 (.tup [.int (N : Nat), .int (M : Nat)])) := same_new nl15
    have e_l15 : upd H9 l15 (.tup [.int (N : Nat), .int (M : Nat)]) l15 = some (.tup [.int (N : Nat), .int (M : Nat)]) := upd_same
    revert s16 e_l15; generalize upd H9 l15 (.tup [.int (N : Nat), .int (M : Nat)]) = H17; intro s16 e_l15
    replace hB := hB.same s16
    replace kH := kH.trans (Keep.of_same s16)
    refine ⟨l15, _, rfl, .inl (.inl e_l15), rfl, _, _, rfl, _, _, rfl, rfl, ?_⟩
    first | refine st_set [some (.ref b), some (.int (N : Nat)), some (.int (M : Nat)), none, none, none, none, none, none, none, none, none, none, none, none, none, none, none, none, none, none] ?_ rfl | refine st_eq [some (.ref b), some (.int (N : Nat)), some (.int (M : Nat)), none, none, none, none, none, none, none, none, none, none, none, none, none, none, none, none, none, none] ?_ rfl | refine st_eq (t := tSeq _ _) [some (.ref b), some (.int (N : Nat)), some (.int (M : Nat)), none, none, none, none, none, none, none, none, none, none, none, none, none, none, none, none, none, none] ?_ rfl
    refine ⟨_, rfl, _, rfl, b, n + 988, N, rfl, hB.mono (by omega), by omega, by omega, fun H18 t19 ps20 hp21 k22 hB23 n24 e_t19 => ?_⟩
    obtain ⟨y_hy25, hy25⟩ := hB.lst
    clear hB
    have hB := hB23
    replace kH := kH.trans k22
    refine ⟨_, rfl, _, rfl, b, n + 978, M, rfl, hB.mono (by omega), by omega, by omega, fun H26 t27 ps28 hp29 k30 hB31 n32 e_t27 => ?_⟩
    obtain ⟨y_hy33, hy33⟩ := hB.lst
    replace e_t19 := k30.tup hy33 e_t19
    clear hB
    have hB := hB31
    replace kH := kH.trans k30
    refine ⟨_, _, rfl, ?_⟩
    first | refine st_set [some (.ref b), some (.int (N : Nat)), some (.int (M : Nat)), some (.ref t19), some (.ref t27), none, none, none, none, none, none, none, none, none, none, none, none, none, none, none, none] ?_ rfl | refine st_eq [some (.ref b), some (.int (N : Nat)), some (.int (M : Nat)), some (.ref t19), some (.ref t27), none, none, none, none, none, none, none, none, none, none, none, none, none, none, none, none] ?_ rfl | refine st_eq (t := tSeq _ _) [some (.ref b), some (.int (N : Nat)), some (.int (M : Nat)), some (.ref t19), some (.ref t27), none, none, none, none, none, none, none, none, none, none, none, none, none, none, none, none] ?_ rfl
    refine ⟨_, rfl, _, rfl, b, n + 964, N, 12, rfl, hB.mono (by omega), by omega, by omega, by omega, fun H34 t35 as36 qs37 hc38 hl39 n40 e_t35 hA_t35 k41 hB42 => ?_⟩
    have ne_t35 : t35 ≠ b := (hB.ne_new n40).symm
    obtain ⟨y_hy43, hy43⟩ := hB.lst
    replace e_t19 := k41.tup hy43 e_t19
    replace e_t27 := k41.tup hy43 e_t27
    clear hB
    have hB := hB42
    replace kH := kH.trans k41
    refine ⟨_, rfl, _, rfl, b, n + 950, M, 12, rfl, hB.mono (by omega), by omega, by omega, by omega, fun H44 t45 as46 qs47 hc48 hl49 n50 e_t45 hA_t45 k51 hB52 => ?_⟩
    have ne_t45 : t45 ≠ b := (hB.ne_new n50).symm
    obtain ⟨y_hy53, hy53⟩ := hB.lst
    replace e_t19 := k51.tup hy53 e_t19
    replace e_t27 := k51.tup hy53 e_t27
    replace e_t35 := k51 _ _ ne_t35 e_t35
    replace hA_t35 := prs_keep k51 hy53 hA_t35
    clear hB
    have hB := hB52
    replace kH := kH.trans k51
    refine ⟨_, _, rfl, ?_⟩
    first | refine st_set [some (.ref b), some (.int (N : Nat)), some (.int (M : Nat)), some (.ref t19), some (.ref t27), some (.ref t35), some (.ref t45), none, none, none, none, none, none, none, none, none, none, none, none, none, none] ?_ rfl | refine st_eq [some (.ref b), some (.int (N : Nat)), some (.int (M : Nat)), some (.ref t19), some (.ref t27), some (.ref t35), some (.ref t45), none, none, none, none, none, none, none, none, none, none, none, none, none, none] ?_ rfl | refine st_eq (t := tSeq _ _) [some (.ref b), some (.int (N : Nat)), some (.int (M : Nat)), some (.ref t19), some (.ref t27), some (.ref t35), some (.ref t45), none, none, none, none, none, none, none, none, none, none, none, none, none, none] ?_ rfl
    have hl_t35 := hl39
    have hl_t45 := hl49
    refine ⟨_, rfl, 10, 11, rfl, rfl, ⟨by decide, by decide, by decide⟩, b, n + 948, ((10 : Int) ^ Int.toNat 11), rfl, hB.mono (by omega), by decide, by decide, fun r54 H55 ra56 rb57 hB58 k59 => ?_⟩
    obtain ⟨y_hy60, hy60⟩ := hB.lst
    replace e_t19 := k59.tup hy60 e_t19
    replace e_t27 := k59.tup hy60 e_t27
    replace e_t35 := k59 _ _ ne_t35 e_t35
    replace hA_t35 := prs_keep k59 hy60 hA_t35
    replace e_t45 := k59 _ _ ne_t45 e_t45
    replace hA_t45 := prs_keep k59 hy60 hA_t45
    clear hB
    have hB := hB58
    replace kH := kH.trans k59
    obtain ⟨k1, rfl⟩ : ∃ z : Nat, r54 = (z : Int) := ⟨r54.toNat, by omega⟩
    refine ⟨_, rfl, _, rfl, 10, 11, rfl, rfl, ⟨by decide, by decide, by decide⟩, (by show 2 ≤ sizeLine; decide), fun l61 nl61 => ?_⟩
    have ne_l61 : l61 ≠ b := (hB.ne_new nl61).symm
    have s62 : Same H55 (upd H55 l61 (.lst [.int (9 : Nat), .int (((10 : Int) ^ Int.toNat 11))])) := same_new nl61
    have e_l61 : upd H55 l61 (.lst [.int (9 : Nat), .int (((10 : Int) ^ Int.toNat 11))]) l61 = some (.lst [.int (9 : Nat), .int (((10 : Int) ^ Int.toNat 11))]) := upd_same
    revert s62 e_l61; generalize upd H55 l61 (.lst [.int (9 : Nat), .int (((10 : Int) ^ Int.toNat 11))]) = H63; intro s62 e_l61
    replace e_t19 := s62 _ _ e_t19
    replace e_t27 := s62 _ _ e_t27
    replace e_t35 := s62 _ _ e_t35
    replace hA_t35 := prs_same s62 hA_t35
    replace e_t45 := s62 _ _ e_t45
    replace hA_t45 := prs_same s62 hA_t45
    replace hB := hB.same s62
    replace kH := kH.trans (Keep.of_same s62)
    refine ⟨b, l61, n + 947, _, rfl, hB.mono (by omega), ne_l61, e_l61, by show 0 < 2; decide, by show 2 ≤ 1000; decide, fun H69 i64 v65 hv66 k67 hB68 => ?_⟩
    obtain ⟨y_hy70, hy70⟩ := hB.lst
    replace e_t19 := k67.tup hy70 e_t19
    replace e_t27 := k67.tup hy70 e_t27
    replace e_t35 := k67 _ _ ne_t35 e_t35
    replace hA_t35 := prs_keep k67 hy70 hA_t35
    replace e_t45 := k67 _ _ ne_t45 e_t45
    replace hA_t45 := prs_keep k67 hy70 hA_t45
    clear hB
    have hB := hB68
    replace kH := kH.trans k67
    obtain ⟨zb, rfl, zp, zl⟩ : ∃ z : Int, v65 = .int z ∧ 0 < z ∧ z ≤ 100000000000000 := by
      have hi : i64 < 2 := get_lt hv66
      rcases (show i64 = 0 ∨ i64 = 1 by omega) with z | z
      · subst z; exact ⟨9, (Option.some.inj hv66).symm, by decide, by decide⟩
      · subst z; exact ⟨(10 : Int) ^ Int.toNat 11, (Option.some.inj hv66).symm, by decide, by decide⟩
    refine ⟨b, n + 945, zb, rfl, hB.mono (by omega), zp, zl, fun r71 H72 ra73 rb74 hB75 k76 => ?_⟩
    obtain ⟨y_hy77, hy77⟩ := hB.lst
    replace e_t19 := k76.tup hy77 e_t19
    replace e_t27 := k76.tup hy77 e_t27
    replace e_t35 := k76 _ _ ne_t35 e_t35
    replace hA_t35 := prs_keep k76 hy77 hA_t35
    replace e_t45 := k76 _ _ ne_t45 e_t45
    replace hA_t45 := prs_keep k76 hy77 hA_t45
    clear hB
    have hB := hB75
    replace kH := kH.trans k76
    obtain ⟨k2, rfl⟩ : ∃ z : Nat, r71 = (z : Int) := ⟨r71.toNat, by omega⟩
    refine ⟨_, _, rfl, ?_⟩
    first | refine st_set [some (.ref b), some (.int (N : Nat)), some (.int (M : Nat)), some (.ref t19), some (.ref t27), some (.ref t35), some (.ref t45), some (.int (k1 : Nat)), some (.int (k2 : Nat)), none, none, none, none, none, none, none, none, none, none, none, none] ?_ rfl | refine st_eq [some (.ref b), some (.int (N : Nat)), some (.int (M : Nat)), some (.ref t19), some (.ref t27), some (.ref t35), some (.ref t45), some (.int (k1 : Nat)), some (.int (k2 : Nat)), none, none, none, none, none, none, none, none, none, none, none, none] ?_ rfl | refine st_eq (t := tSeq _ _) [some (.ref b), some (.int (N : Nat)), some (.int (M : Nat)), some (.ref t19), some (.ref t27), some (.ref t35), some (.ref t45), some (.int (k1 : Nat)), some (.int (k2 : Nat)), none, none, none, none, none, none, none, none, none, none, none, none] ?_ rfl
    refine ⟨_, rfl, _, rfl, _, rfl, t19, t35, ps20, _, qs37, N, k1, rfl, .inr (.inl (.inl e_t19)), hp21, by omega, by omega, .inl (.inl (.inl e_t35)), items_of hA_t35, hc38, fun H78 t79 s80 n81 e_t79 => ?_⟩
    rw [← rns_rd (by omega) hp21 hc38] at e_t79
    replace e_t19 := s80 _ _ e_t19
    replace e_t27 := s80 _ _ e_t27
    replace e_t35 := s80 _ _ e_t35
    replace hA_t35 := prs_same s80 hA_t35
    replace e_t45 := s80 _ _ e_t45
    replace hA_t45 := prs_same s80 hA_t45
    replace hB := hB.same s80
    replace kH := kH.trans (Keep.of_same s80)
    refine ⟨_, rfl, _, rfl, t79, t35, (rns qs37 ps20 k1), _, qs37, N, k2, rfl, .inr (.inl (.inl e_t79)), (rns_pair hp21 hc38 k1), by omega, by omega, .inl (.inl (.inl e_t35)), items_of hA_t35, hc38, fun H82 t83 s84 n85 e_t83 => ?_⟩
    rw [← rns_rd (by omega) (rns_pair hp21 hc38 k1) hc38] at e_t83
    replace e_t19 := s84 _ _ e_t19
    replace e_t27 := s84 _ _ e_t27
    replace e_t35 := s84 _ _ e_t35
    replace hA_t35 := prs_same s84 hA_t35
    replace e_t45 := s84 _ _ e_t45
    replace hA_t45 := prs_same s84 hA_t45
    replace e_t79 := s84 _ _ e_t79
    replace hB := hB.same s84
    replace kH := kH.trans (Keep.of_same s84)
    rw [rns_shift] at e_t83
    refine ⟨_, rfl, _, rfl, _, rfl, t35, t35, _, _, rfl, rfl, e_t35, e_t35, by simp only [List.length_map]; rw [hA_t35.length]; exact Nat.le_of_lt (line_big (by omega)), fun l86 nl86 => ?_⟩
    rw [← List.map_append]
    have ne_l86 : l86 ≠ b := (hB.ne_new nl86).symm
    have s87 : Same H82 (upd H82 l86 (.lst ((as36 ++ as36).map V.ref))) := same_new nl86
    have e_l86 : upd H82 l86 (.lst ((as36 ++ as36).map V.ref)) l86 = some (.lst ((as36 ++ as36).map V.ref)) := upd_same
    revert s87 e_l86; generalize upd H82 l86 (.lst ((as36 ++ as36).map V.ref)) = H88; intro s87 e_l86
    replace e_t19 := s87 _ _ e_t19
    replace e_t27 := s87 _ _ e_t27
    replace e_t35 := s87 _ _ e_t35
    replace hA_t35 := prs_same s87 hA_t35
    replace e_t45 := s87 _ _ e_t45
    replace hA_t45 := prs_same s87 hA_t45
    replace e_t79 := s87 _ _ e_t79
    replace e_t83 := s87 _ _ e_t83
    replace hB := hB.same s87
    replace kH := kH.trans (Keep.of_same s87)
    have hA_l86 := prs_append hA_t35 hA_t35
    refine ⟨_, rfl, t19, l86, ps20, _, (qs37 ++ qs37), N, k2, rfl, .inr (.inl (.inl e_t19)), hp21, by omega, by omega, .inl (.inl (.inl e_l86)), items_of hA_l86, (calls_app hc38 hc38), fun H89 t90 s91 n92 e_t90 => ?_⟩
    rw [← rns_rd (by omega) hp21 (calls_app hc38 hc38)] at e_t90
    replace e_t19 := s91 _ _ e_t19
    replace e_t27 := s91 _ _ e_t27
    replace e_t35 := s91 _ _ e_t35
    replace hA_t35 := prs_same s91 hA_t35
    replace e_t45 := s91 _ _ e_t45
    replace hA_t45 := prs_same s91 hA_t45
    replace e_t79 := s91 _ _ e_t79
    replace e_t83 := s91 _ _ e_t83
    replace e_l86 := s91 _ _ e_l86
    replace hA_l86 := prs_same s91 hA_l86
    replace hB := hB.same s91
    replace kH := kH.trans (Keep.of_same s91)
    rw [rns_twice] at e_t90
    refine ⟨(by show 2 ≤ sizeLine; decide), fun l93 nl93 => ?_⟩
    have ne_l93 : l93 ≠ b := (hB.ne_new nl93).symm
    have s94 : Same H89 (upd H89 l93 (.lst [.ref t83, .ref t90])) := same_new nl93
    have e_l93 : upd H89 l93 (.lst [.ref t83, .ref t90]) l93 = some (.lst [.ref t83, .ref t90]) := upd_same
    revert s94 e_l93; generalize upd H89 l93 (.lst [.ref t83, .ref t90]) = H95; intro s94 e_l93
    replace e_t19 := s94 _ _ e_t19
    replace e_t27 := s94 _ _ e_t27
    replace e_t35 := s94 _ _ e_t35
    replace hA_t35 := prs_same s94 hA_t35
    replace e_t45 := s94 _ _ e_t45
    replace hA_t45 := prs_same s94 hA_t45
    replace e_t79 := s94 _ _ e_t79
    replace e_t83 := s94 _ _ e_t83
    replace e_l86 := s94 _ _ e_l86
    replace hA_l86 := prs_same s94 hA_l86
    replace e_t90 := s94 _ _ e_t90
    replace hB := hB.same s94
    replace kH := kH.trans (Keep.of_same s94)
    first | refine st_set [some (.ref b), some (.int (N : Nat)), some (.int (M : Nat)), some (.ref t19), some (.ref t27), some (.ref t35), some (.ref t45), some (.int (k1 : Nat)), some (.int (k2 : Nat)), some (.ref l93), none, none, none, none, none, none, none, none, none, none, none] ?_ rfl | refine st_eq [some (.ref b), some (.int (N : Nat)), some (.int (M : Nat)), some (.ref t19), some (.ref t27), some (.ref t35), some (.ref t45), some (.int (k1 : Nat)), some (.int (k2 : Nat)), some (.ref l93), none, none, none, none, none, none, none, none, none, none, none] ?_ rfl | refine st_eq (t := tSeq _ _) [some (.ref b), some (.int (N : Nat)), some (.int (M : Nat)), some (.ref t19), some (.ref t27), some (.ref t35), some (.ref t45), some (.int (k1 : Nat)), some (.int (k2 : Nat)), some (.ref l93), none, none, none, none, none, none, none, none, none, none, none] ?_ rfl
    refine ⟨_, rfl, _, rfl, _, rfl, _, rfl, _, rfl, _, _, rfl, rfl, t19, t35, ps20, _, qs37, N, (k1 + k2), rfl, .inr (.inl (.inl e_t19)), hp21, by omega, by omega, .inl (.inl (.inl e_t35)), items_of hA_t35, hc38, fun H96 t97 s98 n99 e_t97 => ?_⟩
    rw [← rns_rd (by omega) hp21 hc38] at e_t97
    replace e_t19 := s98 _ _ e_t19
    replace e_t27 := s98 _ _ e_t27
    replace e_t35 := s98 _ _ e_t35
    replace hA_t35 := prs_same s98 hA_t35
    replace e_t45 := s98 _ _ e_t45
    replace hA_t45 := prs_same s98 hA_t45
    replace e_t83 := s98 _ _ e_t83
    replace e_t90 := s98 _ _ e_t90
    replace e_l93 := s98 _ _ e_l93
    replace hB := hB.same s98
    replace kH := kH.trans (Keep.of_same s98)
    refine ⟨_, rfl, _, rfl, _, rfl, _, _, rfl, rfl, .inl ⟨by omega, by omega⟩, t19, t35, ps20, _, qs37, N, (2 * k2), rfl, .inr (.inl (.inl e_t19)), hp21, by omega, by omega, .inl (.inl (.inl e_t35)), items_of hA_t35, hc38, fun H100 t101 s102 n103 e_t101 => ?_⟩
    rw [← rns_rd (by omega) hp21 hc38] at e_t101
    replace e_t19 := s102 _ _ e_t19
    replace e_t27 := s102 _ _ e_t27
    replace e_t35 := s102 _ _ e_t35
    replace hA_t35 := prs_same s102 hA_t35
    replace e_t45 := s102 _ _ e_t45
    replace hA_t45 := prs_same s102 hA_t45
    replace e_t83 := s102 _ _ e_t83
    replace e_t90 := s102 _ _ e_t90
    replace e_l93 := s102 _ _ e_l93
    replace e_t97 := s102 _ _ e_t97
    replace hB := hB.same s102
    replace kH := kH.trans (Keep.of_same s102)
    refine ⟨(by show 2 ≤ sizeLine; decide), fun l104 nl104 => ?_⟩
    have ne_l104 : l104 ≠ b := (hB.ne_new nl104).symm
    have s105 : Same H100 (upd H100 l104 (.lst [.ref t97, .ref t101])) := same_new nl104
    have e_l104 : upd H100 l104 (.lst [.ref t97, .ref t101]) l104 = some (.lst [.ref t97, .ref t101]) := upd_same
    revert s105 e_l104; generalize upd H100 l104 (.lst [.ref t97, .ref t101]) = H106; intro s105 e_l104
    replace e_t19 := s105 _ _ e_t19
    replace e_t27 := s105 _ _ e_t27
    replace e_t35 := s105 _ _ e_t35
    replace hA_t35 := prs_same s105 hA_t35
    replace e_t45 := s105 _ _ e_t45
    replace hA_t45 := prs_same s105 hA_t45
    replace e_t83 := s105 _ _ e_t83
    replace e_t90 := s105 _ _ e_t90
    replace e_l93 := s105 _ _ e_l93
    replace e_t97 := s105 _ _ e_t97
    replace e_t101 := s105 _ _ e_t101
    replace hB := hB.same s105
    replace kH := kH.trans (Keep.of_same s105)
    have fk107 : Fi 2 (.list [td ((rns qs37 ps20 (k1 + k2))), td ((rns qs37 ps20 (2 * k2)))]) := fi_list (j := 1) (n := 2) (fa_cons (fi_tup (rns_pair hp21 hc38 (k1 + k2)) (by omega)) (fa_cons (fi_tup (rns_pair hp21 hc38 (2 * k2)) (by omega)) fa_nil)) rfl (by decide)
    refine ⟨_, _, .lst (.inl (.inl e_l93)) (.cons (.tup (.inl (.inl e_t83)) (dp_nats _)) (.cons (.tup (.inl (.inl e_t90)) (dp_nats _)) .nil)), .lst (.inl (.inl e_l104)) (.cons (.tup (.inl (.inl e_t97)) (dp_nats _)) (.cons (.tup (.inl (.inl e_t101)) (dp_nats _)) .nil)), fk107.sh, fk107.sh, _, rfl, iteX (fi_ne fk107) ?_⟩
    refine ⟨_, rfl, _, rfl, t19, t27, ps20, ps28, rfl, .inr (.inl (.inl e_t19)), .inr (.inl (.inl e_t27)), (fun z => by have := hp21.len; rw [z] at this; simp at this; omega), (fun z => by have := hp29.len; rw [z] at this; simp at this; omega), by rw [hp21.len]; omega, by rw [hp29.len]; omega, fun H108 t109 s110 n111 e_t109 => ?_⟩
    replace e_t19 := s110 _ _ e_t19
    replace e_t27 := s110 _ _ e_t27
    replace e_t35 := s110 _ _ e_t35
    replace hA_t35 := prs_same s110 hA_t35
    replace e_t45 := s110 _ _ e_t45
    replace hA_t45 := prs_same s110 hA_t45
    replace hB := hB.same s110
    replace kH := kH.trans (Keep.of_same s110)
    refine ⟨_, rfl, _, rfl, t45, rfl, ⟨_, .inl (.inl e_t45)⟩, fun D112 nD112 => ?_⟩
    refine lc_list (xs := as46.map V.ref) (fun i H' => Same H108 H' ∧ ∃ es : List Addr, H' D112 = some (.lst (es.map V.ref)) ∧ Prs H' es ((shW N qs47).take i)) ⟨same_new nD112, [], upd_same, .nil⟩ (fun i H' _ h => .inl (.inl (h.1 _ _ e_t45))) (fun i v H' hv h => ?_) (fun H' h => ?_)
    · obtain ⟨sm, es, eD, hE⟩ := h
      rw [List.getElem?_map] at hv
      obtain ⟨u, hu, rfl⟩ := Option.map_eq_some_iff.mp hv
      obtain ⟨r, hr', exu⟩ := prs_get hA_t45 hu
      refine ⟨u, _, rfl, .inl (.inl (sm _ _ exu)), rfl, _, _, rfl, _, _, rfl, rfl, rfl, yes_if ⟨_, rfl, _, rfl, _, _, rfl, rfl, _, rfl, _, rfl, _, _, rfl, rfl, by show 2 ≤ sizeLine; decide, fun z nz => ⟨_, same_new nz _ _ eD, ?_, fun y o hy => ?_, es ++ [z], ?_, ?_⟩⟩⟩
      · rw [List.length_map, hE.length]; exact small1000 (Nat.le_trans (List.length_take_le' _ _) (by rw [shW_len]; omega))
      · rw [upd_ne (ne_of_none hy nD112)]; exact same_new nz _ _ (sm _ _ hy)
      · rw [upd_same, List.map_append]; rfl
      · have zD : z ≠ D112 := fun e => by rw [e, eD] at nz; cases nz
        rw [shW_take hr']
        refine prs_append (prs_keep (b := D112) keep_upd (same_new nz _ _ eD) (prs_same (same_new nz) hE)) (.cons ?_ .nil)
        rw [upd_ne zD, upd_same]; rfl
    obtain ⟨s113, es115, e_D112, hA_D112⟩ := h
    rw [List.length_map, hA_t45.length, show qs47.length = (shW N qs47).length from (shW_len _ _).symm, List.take_length] at hA_D112
    revert s113 e_D112 hA_D112; generalize H' = H114; intro s113 e_D112 hA_D112
    have ne_D112 : D112 ≠ b := (hB.ne_new nD112).symm
    replace e_t19 := s113 _ _ e_t19
    replace e_t27 := s113 _ _ e_t27
    replace e_t35 := s113 _ _ e_t35
    replace hA_t35 := prs_same s113 hA_t35
    replace e_t45 := s113 _ _ e_t45
    replace hA_t45 := prs_same s113 hA_t45
    replace e_t109 := s113 _ _ e_t109
    replace hB := hB.same s113
    replace kH := kH.trans (Keep.of_same s113)
    refine ⟨t35, D112, _, _, rfl, rfl, e_t35, e_D112, by simp only [List.length_map]; rw [hA_t35.length, hA_D112.length, shW_len]; exact Nat.le_of_lt (line_big (by omega)), fun l116 nl116 => ?_⟩
    rw [← List.map_append]
    have ne_l116 : l116 ≠ b := (hB.ne_new nl116).symm
    have s117 : Same H114 (upd H114 l116 (.lst ((as36 ++ es115).map V.ref))) := same_new nl116
    have e_l116 : upd H114 l116 (.lst ((as36 ++ es115).map V.ref)) l116 = some (.lst ((as36 ++ es115).map V.ref)) := upd_same
    revert s117 e_l116; generalize upd H114 l116 (.lst ((as36 ++ es115).map V.ref)) = H118; intro s117 e_l116
    replace e_t19 := s117 _ _ e_t19
    replace e_t27 := s117 _ _ e_t27
    replace e_t35 := s117 _ _ e_t35
    replace hA_t35 := prs_same s117 hA_t35
    replace e_t45 := s117 _ _ e_t45
    replace hA_t45 := prs_same s117 hA_t45
    replace e_t109 := s117 _ _ e_t109
    replace e_D112 := s117 _ _ e_D112
    replace hA_D112 := prs_same s117 hA_D112
    replace hB := hB.same s117
    replace kH := kH.trans (Keep.of_same s117)
    have hA_l116 := prs_append hA_t35 hA_D112
    refine ⟨_, _, rfl, ?_⟩
    first | refine st_set [some (.ref b), some (.int (N : Nat)), some (.int (M : Nat)), some (.ref t19), some (.ref t27), some (.ref t35), some (.ref t45), some (.int (k1 : Nat)), some (.int (k2 : Nat)), some (.ref l93), some (.ref t109), some (.ref l116), none, none, none, none, none, none, none, none, none] ?_ rfl | refine st_eq [some (.ref b), some (.int (N : Nat)), some (.int (M : Nat)), some (.ref t19), some (.ref t27), some (.ref t35), some (.ref t45), some (.int (k1 : Nat)), some (.int (k2 : Nat)), some (.ref l93), some (.ref t109), some (.ref l116), none, none, none, none, none, none, none, none, none] ?_ rfl | refine st_eq (t := tSeq _ _) [some (.ref b), some (.int (N : Nat)), some (.int (M : Nat)), some (.ref t19), some (.ref t27), some (.ref t35), some (.ref t45), some (.int (k1 : Nat)), some (.int (k2 : Nat)), some (.ref l93), some (.ref t109), some (.ref l116), none, none, none, none, none, none, none, none, none] ?_ rfl
    refine ⟨_, rfl, _, rfl, _, rfl, t109, l116, (jnd ps20 ps28), _, (qs37 ++ (shW N qs47)), (N + M), k2, rfl, .inr (.inl (.inl e_t109)), (jnd_pair hp21 hp29), by omega, by omega, .inl (.inl (.inl e_l116)), items_of hA_l116, (shW_calls hc38 hc48), fun H119 t120 s121 n122 e_t120 => ?_⟩
    rw [← rns_rd (by omega) (jnd_pair hp21 hp29) (shW_calls hc38 hc48)] at e_t120
    replace e_t19 := s121 _ _ e_t19
    replace e_t27 := s121 _ _ e_t27
    replace e_t35 := s121 _ _ e_t35
    replace hA_t35 := prs_same s121 hA_t35
    replace e_t45 := s121 _ _ e_t45
    replace hA_t45 := prs_same s121 hA_t45
    replace e_t109 := s121 _ _ e_t109
    replace e_l116 := s121 _ _ e_l116
    replace hA_l116 := prs_same s121 hA_l116
    replace hB := hB.same s121
    replace kH := kH.trans (Keep.of_same s121)
    rw [rns_jnd hp21 hp29 hc38 hc48] at e_t120
    refine ⟨_, rfl, _, rfl, _, rfl, t19, t35, ps20, _, qs37, N, k2, rfl, .inr (.inl (.inl e_t19)), hp21, by omega, by omega, .inl (.inl (.inl e_t35)), items_of hA_t35, hc38, fun H123 t124 s125 n126 e_t124 => ?_⟩
    rw [← rns_rd (by omega) hp21 hc38] at e_t124
    replace e_t19 := s125 _ _ e_t19
    replace e_t27 := s125 _ _ e_t27
    replace e_t35 := s125 _ _ e_t35
    replace hA_t35 := prs_same s125 hA_t35
    replace e_t45 := s125 _ _ e_t45
    replace hA_t45 := prs_same s125 hA_t45
    replace e_t109 := s125 _ _ e_t109
    replace e_l116 := s125 _ _ e_l116
    replace hA_l116 := prs_same s125 hA_l116
    replace e_t120 := s125 _ _ e_t120
    replace hB := hB.same s125
    replace kH := kH.trans (Keep.of_same s125)
    refine ⟨_, rfl, _, rfl, _, rfl, t27, t45, ps28, _, qs47, M, k2, rfl, .inr (.inl (.inl e_t27)), hp29, by omega, by omega, .inl (.inl (.inl e_t45)), items_of hA_t45, hc48, fun H127 t128 s129 n130 e_t128 => ?_⟩
    rw [← rns_rd (by omega) hp29 hc48] at e_t128
    replace e_t19 := s129 _ _ e_t19
    replace e_t27 := s129 _ _ e_t27
    replace e_t35 := s129 _ _ e_t35
    replace hA_t35 := prs_same s129 hA_t35
    replace e_t45 := s129 _ _ e_t45
    replace hA_t45 := prs_same s129 hA_t45
    replace e_t109 := s129 _ _ e_t109
    replace e_l116 := s129 _ _ e_l116
    replace hA_l116 := prs_same s129 hA_l116
    replace e_t120 := s129 _ _ e_t120
    replace e_t124 := s129 _ _ e_t124
    replace hB := hB.same s129
    replace kH := kH.trans (Keep.of_same s129)
    refine ⟨t124, t128, (rns qs37 ps20 k2), (rns qs47 ps28 k2), rfl, .inr (.inl (.inl e_t124)), .inr (.inl (.inl e_t128)), (fun z => by have := (rns_pair hp21 hc38 k2).len; rw [z] at this; simp at this; omega), (fun z => by have := (rns_pair hp29 hc48 k2).len; rw [z] at this; simp at this; omega), by rw [(rns_pair hp21 hc38 k2).len]; omega, by rw [(rns_pair hp29 hc48 k2).len]; omega, fun H131 t132 s133 n134 e_t132 => ?_⟩
    replace e_t19 := s133 _ _ e_t19
    replace e_t27 := s133 _ _ e_t27
    replace e_t35 := s133 _ _ e_t35
    replace hA_t35 := prs_same s133 hA_t35
    replace e_t45 := s133 _ _ e_t45
    replace hA_t45 := prs_same s133 hA_t45
    replace e_t109 := s133 _ _ e_t109
    replace e_l116 := s133 _ _ e_l116
    replace hA_l116 := prs_same s133 hA_l116
    replace e_t120 := s133 _ _ e_t120
    replace e_t124 := s133 _ _ e_t124
    replace e_t128 := s133 _ _ e_t128
    replace hB := hB.same s133
    replace kH := kH.trans (Keep.of_same s133)
    have fk135 : Fi 1 (td ((jnd (rns qs37 ps20 k2) (rns qs47 ps28 k2)))) := fi_tup (jnd_pair (rns_pair hp21 hc38 k2) (rns_pair hp29 hc48 k2)) (by omega)
    refine ⟨_, _, .tup (.inl (.inl e_t120)) (dp_nats _), .tup (.inl (.inl e_t132)) (dp_nats _), fk135.sh, fk135.sh, _, rfl, iteX (fi_ne fk135) ?_⟩
    refine ⟨_, rfl, _, rfl, t19, t35, ps20, N, _, qs37, rfl, .inr (.inl (.inl e_t19)), hp21, by omega, by omega, .inl (.inl (.inl e_t35)), items_of hA_t35, hc38, fun H136 t137 b138 q139 p140 hT141 s142 n143 e_t137 => ?_⟩
    replace e_t19 := s142 _ _ e_t19
    replace e_t27 := s142 _ _ e_t27
    replace e_t35 := s142 _ _ e_t35
    replace hA_t35 := prs_same s142 hA_t35
    replace e_t45 := s142 _ _ e_t45
    replace hA_t45 := prs_same s142 hA_t45
    replace e_t109 := s142 _ _ e_t109
    replace e_l116 := s142 _ _ e_l116
    replace hA_l116 := prs_same s142 hA_l116
    replace hB := hB.same s142
    replace kH := kH.trans (Keep.of_same s142)
    have hR_t137 := hT141.rh (x := rns qs37 ps20) (F := fun z => runs qs37 z) (fun _ => rfl)
    refine ⟨_, rfl, _, rfl, t27, t45, ps28, M, _, qs47, rfl, .inr (.inl (.inl e_t27)), hp29, by omega, by omega, .inl (.inl (.inl e_t45)), items_of hA_t45, hc48, fun H144 t145 b146 q147 p148 hT149 s150 n151 e_t145 => ?_⟩
    replace e_t19 := s150 _ _ e_t19
    replace e_t27 := s150 _ _ e_t27
    replace e_t35 := s150 _ _ e_t35
    replace hA_t35 := prs_same s150 hA_t35
    replace e_t45 := s150 _ _ e_t45
    replace hA_t45 := prs_same s150 hA_t45
    replace e_t109 := s150 _ _ e_t109
    replace e_l116 := s150 _ _ e_l116
    replace hA_l116 := prs_same s150 hA_l116
    replace e_t137 := s150 _ _ e_t137
    replace hB := hB.same s150
    replace kH := kH.trans (Keep.of_same s150)
    have hR_t145 := hT149.rh (x := rns qs47 ps28) (F := fun z => runs qs47 z) (fun _ => rfl)
    refine ⟨(by show 2 ≤ sizeLine; decide), fun l152 nl152 => ?_⟩
    have s153 : Same H144 (upd H144 l152 (.tup [.ref t137, .ref t145])) := same_new nl152
    have e_l152 : upd H144 l152 (.tup [.ref t137, .ref t145]) l152 = some (.tup [.ref t137, .ref t145]) := upd_same
    revert s153 e_l152; generalize upd H144 l152 (.tup [.ref t137, .ref t145]) = H154; intro s153 e_l152
    replace e_t19 := s153 _ _ e_t19
    replace e_t27 := s153 _ _ e_t27
    replace e_t35 := s153 _ _ e_t35
    replace hA_t35 := prs_same s153 hA_t35
    replace e_t45 := s153 _ _ e_t45
    replace hA_t45 := prs_same s153 hA_t45
    replace e_t109 := s153 _ _ e_t109
    replace e_l116 := s153 _ _ e_l116
    replace hA_l116 := prs_same s153 hA_l116
    replace e_t137 := s153 _ _ e_t137
    replace e_t145 := s153 _ _ e_t145
    replace hB := hB.same s153
    replace kH := kH.trans (Keep.of_same s153)
    refine ⟨l152, _, rfl, .inl (.inl e_l152), rfl, _, _, rfl, t137, _, rfl, .inl (.inl e_t137), rfl, _, _, rfl, _, _, rfl, rfl, _, _, rfl, t145, _, rfl, .inl (.inl e_t145), rfl, _, _, rfl, _, _, rfl, rfl, rfl, ?_⟩
    first | refine st_set [some (.ref b), some (.int (N : Nat)), some (.int (M : Nat)), some (.ref t19), some (.ref t27), some (.ref t35), some (.ref t45), some (.int (k1 : Nat)), some (.int (k2 : Nat)), some (.ref l93), some (.ref t109), some (.ref l116), some (.int (b138 : Nat)), some (.int (q139 : Nat)), some (.int (b146 : Nat)), some (.int (q147 : Nat)), none, none, none, none, none] ?_ rfl | refine st_eq [some (.ref b), some (.int (N : Nat)), some (.int (M : Nat)), some (.ref t19), some (.ref t27), some (.ref t35), some (.ref t45), some (.int (k1 : Nat)), some (.int (k2 : Nat)), some (.ref l93), some (.ref t109), some (.ref l116), some (.int (b138 : Nat)), some (.int (q139 : Nat)), some (.int (b146 : Nat)), some (.int (q147 : Nat)), none, none, none, none, none] ?_ rfl | refine st_eq (t := tSeq _ _) [some (.ref b), some (.int (N : Nat)), some (.int (M : Nat)), some (.ref t19), some (.ref t27), some (.ref t35), some (.ref t45), some (.int (k1 : Nat)), some (.int (k2 : Nat)), some (.ref l93), some (.ref t109), some (.ref l116), some (.int (b138 : Nat)), some (.int (q139 : Nat)), some (.int (b146 : Nat)), some (.int (q147 : Nat)), none, none, none, none, none] ?_ rfl
    have hf_t137 := hR_t137.few (by omega) nev (rns_pair hp21 hc38)
    have hq_t137 := hR_t137.1
    have hf_t145 := hR_t145.few (by omega) mev (rns_pair hp29 hc48)
    have hq_t145 := hR_t145.1
    have hlcm : Nat.lcm q139 q147 ≤ 135135 * 135135 := Nat.le_trans (Nat.div_le_self _ _) (Nat.mul_le_mul (by omega) (by omega))
    refine ⟨_, rfl, _, rfl, t109, l116, (jnd ps20 ps28), (N + M), _, (qs37 ++ (shW N qs47)), rfl, .inr (.inl (.inl e_t109)), (jnd_pair hp21 hp29), by omega, by omega, .inl (.inl (.inl e_l116)), items_of hA_l116, (shW_calls hc38 hc48), fun H155 t156 b157 q158 p159 hT160 s161 n162 e_t156 => ?_⟩
    replace e_t19 := s161 _ _ e_t19
    replace e_t27 := s161 _ _ e_t27
    replace e_t35 := s161 _ _ e_t35
    replace hA_t35 := prs_same s161 hA_t35
    replace e_t45 := s161 _ _ e_t45
    replace hA_t45 := prs_same s161 hA_t45
    replace e_t109 := s161 _ _ e_t109
    replace e_l116 := s161 _ _ e_l116
    replace hA_l116 := prs_same s161 hA_l116
    replace hB := hB.same s161
    replace kH := kH.trans (Keep.of_same s161)
    have hR_t156 := hT160.rh (x := rns (qs37 ++ (shW N qs47)) (jnd ps20 ps28)) (F := fun z => runs (qs37 ++ (shW N qs47)) z) (fun _ => rfl)
    have hJ : Rh (rns (qs37 ++ (shW N qs47)) (jnd ps20 ps28)) (max b138 b146) (Nat.lcm q139 q147) := by
      have e : rns (qs37 ++ (shW N qs47)) (jnd ps20 ps28) = fun k => jnd (rns qs37 ps20 k) (rns qs47 ps28 k) := funext (rns_jnd hp21 hp29 hc38 hc48)
      rw [e]; exact rh_join (fun k => (rns_pair hp21 hc38 k).len) hR_t137 hR_t145
    obtain ⟨rfl, rfl⟩ := hJ.det hR_t156
    refine ⟨_, rfl, _, rfl, _, _, rfl, _, rfl, _, rfl, q139, q147, rfl, by omega, by omega, by omega, by omega, (by show 2 ≤ sizeLine; decide), fun l163 nl163 => ?_⟩
    rw [max_v]
    have s164 : Same H155 (upd H155 l163 (.tup [.int ((max b138 b146) : Nat), .int ((Nat.lcm q139 q147) : Nat)])) := same_new nl163
    have e_l163 : upd H155 l163 (.tup [.int ((max b138 b146) : Nat), .int ((Nat.lcm q139 q147) : Nat)]) l163 = some (.tup [.int ((max b138 b146) : Nat), .int ((Nat.lcm q139 q147) : Nat)]) := upd_same
    revert s164 e_l163; generalize upd H155 l163 (.tup [.int ((max b138 b146) : Nat), .int ((Nat.lcm q139 q147) : Nat)]) = H165; intro s164 e_l163
    replace e_t19 := s164 _ _ e_t19
    replace e_t27 := s164 _ _ e_t27
    replace e_t35 := s164 _ _ e_t35
    replace hA_t35 := prs_same s164 hA_t35
    replace e_t45 := s164 _ _ e_t45
    replace hA_t45 := prs_same s164 hA_t45
    replace e_t109 := s164 _ _ e_t109
    replace e_l116 := s164 _ _ e_l116
    replace hA_l116 := prs_same s164 hA_l116
    replace e_t156 := s164 _ _ e_t156
    replace hB := hB.same s164
    replace kH := kH.trans (Keep.of_same s164)
    have fk166 : Fi 1 (.tuple [.int (((max b138 b146) : Nat)), .int (((Nat.lcm q139 q147) : Nat))]) := fi_tuple (j := 0) (n := 2) (fa_cons (fi_int (by omega)) (fa_cons (fi_int (by omega)) fa_nil)) rfl (by decide)
    refine ⟨_, _, .tup (.inl (.inl e_t156)) (.cons (.int _) (.cons (.int _) .nil)), .tup (.inl (.inl e_l163)) (.cons (.int _) (.cons (.int _) .nil)), fk166.sh, fk166.sh, _, rfl, iteX (fi_ne fk166) ?_⟩
    refine ⟨_, rfl, _, rfl, _, rfl, RgOk.of_le (by decide) (by omega) (by decide) (by omega), fun lr nlr => ?_⟩
    rw [rg_nv]
    have ne_lr : lr ≠ b := (hB.ne_new nlr).symm
    have s167 : Same H165 (upd H165 lr (.lst (nv (List.range N)))) := same_new nlr
    have e_lr : upd H165 lr (.lst (nv (List.range N))) lr = some (.lst (nv (List.range N))) := upd_same
    revert s167 e_lr; generalize upd H165 lr (.lst (nv (List.range N))) = H168; intro s167 e_lr
    replace e_t19 := s167 _ _ e_t19
    replace e_t27 := s167 _ _ e_t27
    replace e_t35 := s167 _ _ e_t35
    replace hA_t35 := prs_same s167 hA_t35
    replace e_t45 := s167 _ _ e_t45
    replace hA_t45 := prs_same s167 hA_t45
    replace hB := hB.same s167
    replace kH := kH.trans (Keep.of_same s167)
    refine ⟨b, lr, n + 935, _, rfl, hB.mono (by rw [nv_length, List.length_range]; omega), .inl (.inl e_lr), by rw [nv_length, List.length_range]; omega, fun Hs tg ys hpe k6 hB6 ntg e_tg => ?_⟩
    have ne_tg : tg ≠ b := (hB.ne_new ntg).symm
    obtain ⟨y_hy169, hy169⟩ := hB.lst
    replace e_t19 := k6.tup hy169 e_t19
    replace e_t27 := k6.tup hy169 e_t27
    replace e_t35 := k6 _ _ ne_t35 e_t35
    replace hA_t35 := prs_keep k6 hy169 hA_t35
    replace e_t45 := k6 _ _ ne_t45 e_t45
    replace hA_t45 := prs_keep k6 hy169 hA_t45
    clear hB
    have hB := hB6
    replace kH := kH.trans k6
    obtain ⟨fr, efr, pfr⟩ := perm_map_inv (fun (i : Nat) => V.int (i : Int)) hpe.symm (List.range N) rfl
    replace e_tg : Hs tg = some (.lst (nv fr)) := by rw [e_tg, efr]; rfl
    refine ⟨tg, _, rfl, .inl ⟨.inl (.inl e_tg), fun l170 nl170 => ?_⟩⟩
    have s171 : Same Hs (upd Hs l170 (.tup (nv (fr)))) := same_new nl170
    have e_l170 : upd Hs l170 (.tup (nv (fr))) l170 = some (.tup (nv (fr))) := upd_same
    revert s171 e_l170; generalize upd Hs l170 (.tup (nv (fr))) = H172; intro s171 e_l170
    replace e_t19 := s171 _ _ e_t19
    replace e_t27 := s171 _ _ e_t27
    replace e_t35 := s171 _ _ e_t35
    replace hA_t35 := prs_same s171 hA_t35
    replace e_t45 := s171 _ _ e_t45
    replace hA_t45 := prs_same s171 hA_t45
    replace hB := hB.same s171
    replace kH := kH.trans (Keep.of_same s171)
    first | refine st_set [some (.ref b), some (.int (N : Nat)), some (.int (M : Nat)), some (.ref t19), some (.ref t27), some (.ref t35), some (.ref t45), some (.int (k1 : Nat)), some (.int (k2 : Nat)), some (.ref l93), some (.ref t109), some (.ref l116), some (.int (b138 : Nat)), some (.int (q139 : Nat)), some (.int (b146 : Nat)), some (.int (q147 : Nat)), some (.ref l170), none, none, none, none] ?_ rfl | refine st_eq [some (.ref b), some (.int (N : Nat)), some (.int (M : Nat)), some (.ref t19), some (.ref t27), some (.ref t35), some (.ref t45), some (.int (k1 : Nat)), some (.int (k2 : Nat)), some (.ref l93), some (.ref t109), some (.ref l116), some (.int (b138 : Nat)), some (.int (q139 : Nat)), some (.int (b146 : Nat)), some (.int (q147 : Nat)), some (.ref l170), none, none, none, none] ?_ rfl | refine st_eq (t := tSeq _ _) [some (.ref b), some (.int (N : Nat)), some (.int (M : Nat)), some (.ref t19), some (.ref t27), some (.ref t35), some (.ref t45), some (.int (k1 : Nat)), some (.int (k2 : Nat)), some (.ref l93), some (.ref t109), some (.ref l116), some (.int (b138 : Nat)), some (.int (q139 : Nat)), some (.int (b146 : Nat)), some (.int (q147 : Nat)), some (.ref l170), none, none, none, none] ?_ rfl
    refine ⟨_, rfl, _, rfl, t19, l170, ps20, fr, N, rfl, .inr (.inl (.inl e_t19)), .inr (.inl (.inl e_l170)), pfr, hp21.len, (fun j hj => hp21.lt j hj), by omega, fun H173 t174 r175 hM176 s177 n178 e_t174 => ?_⟩
    replace e_t19 := s177 _ _ e_t19
    replace e_t27 := s177 _ _ e_t27
    replace e_t35 := s177 _ _ e_t35
    replace hA_t35 := prs_same s177 hA_t35
    replace e_t45 := s177 _ _ e_t45
    replace hA_t45 := prs_same s177 hA_t45
    replace e_l170 := s177 _ _ e_l170
    replace hB := hB.same s177
    replace kH := kH.trans (Keep.of_same s177)
    refine ⟨_, rfl, _, rfl, t35, l170, as36, qs37, fr, N, rfl, .inl (.inl (.inl e_t35)), hA_t35, hc38, .inr (.inl (.inl e_l170)), pm_len pfr, by omega, by omega, fun H179 t180 bs181 s182 n183 e_t180 hA_t180 => ?_⟩
    have ne_t180 : t180 ≠ b := (hB.ne_new n183).symm
    replace e_t19 := s182 _ _ e_t19
    replace e_t27 := s182 _ _ e_t27
    replace e_t35 := s182 _ _ e_t35
    replace hA_t35 := prs_same s182 hA_t35
    replace e_t45 := s182 _ _ e_t45
    replace hA_t45 := prs_same s182 hA_t45
    replace e_l170 := s182 _ _ e_l170
    replace e_t174 := s182 _ _ e_t174
    replace hB := hB.same s182
    replace kH := kH.trans (Keep.of_same s182)
    refine ⟨_, _, rfl, ?_⟩
    first | refine st_set [some (.ref b), some (.int (N : Nat)), some (.int (M : Nat)), some (.ref t19), some (.ref t27), some (.ref t35), some (.ref t45), some (.int (k1 : Nat)), some (.int (k2 : Nat)), some (.ref l93), some (.ref t109), some (.ref l116), some (.int (b138 : Nat)), some (.int (q139 : Nat)), some (.int (b146 : Nat)), some (.int (q147 : Nat)), some (.ref l170), some (.ref t174), some (.ref t180), none, none] ?_ rfl | refine st_eq [some (.ref b), some (.int (N : Nat)), some (.int (M : Nat)), some (.ref t19), some (.ref t27), some (.ref t35), some (.ref t45), some (.int (k1 : Nat)), some (.int (k2 : Nat)), some (.ref l93), some (.ref t109), some (.ref l116), some (.int (b138 : Nat)), some (.int (q139 : Nat)), some (.int (b146 : Nat)), some (.int (q147 : Nat)), some (.ref l170), some (.ref t174), some (.ref t180), none, none] ?_ rfl | refine st_eq (t := tSeq _ _) [some (.ref b), some (.int (N : Nat)), some (.int (M : Nat)), some (.ref t19), some (.ref t27), some (.ref t35), some (.ref t45), some (.int (k1 : Nat)), some (.int (k2 : Nat)), some (.ref l93), some (.ref t109), some (.ref l116), some (.int (b138 : Nat)), some (.int (q139 : Nat)), some (.int (b146 : Nat)), some (.int (q147 : Nat)), some (.ref l170), some (.ref t174), some (.ref t180), none, none] ?_ rfl
    refine ⟨_, rfl, _, rfl, _, rfl, t174, t180, r175, _, (wrn fr qs37), N, k1, rfl, .inr (.inl (.inl e_t174)), (hM176.pair pfr hp21), by omega, by omega, .inl (.inl (.inl e_t180)), items_of hA_t180, (wrn_calls pfr hc38), fun H184 t185 s186 n187 e_t185 => ?_⟩
    rw [← rns_rd (by omega) (hM176.pair pfr hp21) (wrn_calls pfr hc38)] at e_t185
    replace e_t19 := s186 _ _ e_t19
    replace e_t27 := s186 _ _ e_t27
    replace e_t35 := s186 _ _ e_t35
    replace hA_t35 := prs_same s186 hA_t35
    replace e_t45 := s186 _ _ e_t45
    replace hA_t45 := prs_same s186 hA_t45
    replace e_l170 := s186 _ _ e_l170
    replace e_t174 := s186 _ _ e_t174
    replace e_t180 := s186 _ _ e_t180
    replace hA_t180 := prs_same s186 hA_t180
    replace hB := hB.same s186
    replace kH := kH.trans (Keep.of_same s186)
    refine ⟨_, rfl, _, rfl, _, rfl, t19, t35, ps20, _, qs37, N, k1, rfl, .inr (.inl (.inl e_t19)), hp21, by omega, by omega, .inl (.inl (.inl e_t35)), items_of hA_t35, hc38, fun H188 t189 s190 n191 e_t189 => ?_⟩
    rw [← rns_rd (by omega) hp21 hc38] at e_t189
    replace e_t19 := s190 _ _ e_t19
    replace e_t27 := s190 _ _ e_t27
    replace e_t35 := s190 _ _ e_t35
    replace hA_t35 := prs_same s190 hA_t35
    replace e_t45 := s190 _ _ e_t45
    replace hA_t45 := prs_same s190 hA_t45
    replace e_l170 := s190 _ _ e_l170
    replace e_t174 := s190 _ _ e_t174
    replace e_t180 := s190 _ _ e_t180
    replace hA_t180 := prs_same s190 hA_t180
    replace e_t185 := s190 _ _ e_t185
    replace hB := hB.same s190
    replace kH := kH.trans (Keep.of_same s190)
    refine ⟨_, rfl, t189, l170, (rns qs37 ps20 k1), fr, N, rfl, .inr (.inl (.inl e_t189)), .inr (.inl (.inl e_l170)), pfr, (rns_pair hp21 hc38 k1).len, (fun j hj => (rns_pair hp21 hc38 k1).lt j hj), by omega, fun H192 t193 r194 hM195 s196 n197 e_t193 => ?_⟩
    replace e_t19 := s196 _ _ e_t19
    replace e_t27 := s196 _ _ e_t27
    replace e_t35 := s196 _ _ e_t35
    replace hA_t35 := prs_same s196 hA_t35
    replace e_t45 := s196 _ _ e_t45
    replace hA_t45 := prs_same s196 hA_t45
    replace e_l170 := s196 _ _ e_l170
    replace e_t174 := s196 _ _ e_t174
    replace e_t180 := s196 _ _ e_t180
    replace hA_t180 := prs_same s196 hA_t180
    replace e_t185 := s196 _ _ e_t185
    replace e_t189 := s196 _ _ e_t189
    replace hB := hB.same s196
    replace kH := kH.trans (Keep.of_same s196)
    obtain rfl : (rns (wrn fr qs37) r175 k1) = r194 := (rns_mvd pfr hp21 hc38 hM176 k1).det pfr hM195
    have fk198 : Fi 1 (td ((rns (wrn fr qs37) r175 k1))) := fi_tup (rns_pair (hM176.pair pfr hp21) (wrn_calls pfr hc38) k1) (by omega)
    refine ⟨_, _, .tup (.inl (.inl e_t185)) (dp_nats _), .tup (.inl (.inl e_t193)) (dp_nats _), fk198.sh, fk198.sh, _, rfl, iteX (fi_ne fk198) ?_⟩
    refine ⟨_, rfl, _, rfl, t174, t180, r175, N, _, (wrn fr qs37), rfl, .inr (.inl (.inl e_t174)), (hM176.pair pfr hp21), by omega, by omega, .inl (.inl (.inl e_t180)), items_of hA_t180, (wrn_calls pfr hc38), fun H199 t200 b201 q202 p203 hT204 s205 n206 e_t200 => ?_⟩
    replace e_t19 := s205 _ _ e_t19
    replace e_t27 := s205 _ _ e_t27
    replace e_t35 := s205 _ _ e_t35
    replace hA_t35 := prs_same s205 hA_t35
    replace e_t45 := s205 _ _ e_t45
    replace hA_t45 := prs_same s205 hA_t45
    replace e_t174 := s205 _ _ e_t174
    replace e_t180 := s205 _ _ e_t180
    replace hA_t180 := prs_same s205 hA_t180
    replace hB := hB.same s205
    replace kH := kH.trans (Keep.of_same s205)
    have hR_t200 := hT204.rh (x := rns (wrn fr qs37) r175) (F := fun z => runs (wrn fr qs37) z) (fun _ => rfl)
    obtain ⟨rfl, rfl⟩ := (rh_mvd pfr (rns_pair hp21 hc38) (rns_mvd pfr hp21 hc38 hM176) hR_t137).det hR_t200
    refine ⟨_, rfl, _, rfl, (by show 2 ≤ sizeLine; decide), fun l207 nl207 => ?_⟩
    have s208 : Same H199 (upd H199 l207 (.tup [.int (b138 : Nat), .int (q139 : Nat)])) := same_new nl207
    have e_l207 : upd H199 l207 (.tup [.int (b138 : Nat), .int (q139 : Nat)]) l207 = some (.tup [.int (b138 : Nat), .int (q139 : Nat)]) := upd_same
    revert s208 e_l207; generalize upd H199 l207 (.tup [.int (b138 : Nat), .int (q139 : Nat)]) = H209; intro s208 e_l207
    replace e_t19 := s208 _ _ e_t19
    replace e_t27 := s208 _ _ e_t27
    replace e_t35 := s208 _ _ e_t35
    replace hA_t35 := prs_same s208 hA_t35
    replace e_t45 := s208 _ _ e_t45
    replace hA_t45 := prs_same s208 hA_t45
    replace e_t174 := s208 _ _ e_t174
    replace e_t180 := s208 _ _ e_t180
    replace hA_t180 := prs_same s208 hA_t180
    replace e_t200 := s208 _ _ e_t200
    replace hB := hB.same s208
    replace kH := kH.trans (Keep.of_same s208)
    have fk210 : Fi 1 (.tuple [.int ((b138 : Nat)), .int ((q139 : Nat))]) := fi_tuple (j := 0) (n := 2) (fa_cons (fi_int (by omega)) (fa_cons (fi_int (by omega)) fa_nil)) rfl (by decide)
    refine ⟨_, _, .tup (.inl (.inl e_t200)) (.cons (.int _) (.cons (.int _) .nil)), .tup (.inl (.inl e_l207)) (.cons (.int _) (.cons (.int _) .nil)), fk210.sh, fk210.sh, _, rfl, iteX (fi_ne fk210) ?_⟩
    refine ⟨_, rfl, _, rfl, _, rfl, b, t19, t35, ps20, as36, qs37, N, n + 930, rfl, hB.mono (by omega), e_t19, hp21, by omega, by omega, nev, ne_t35, e_t35, hA_t35, hc38, fun H213 k211 hB212 => ?_⟩
    obtain ⟨y_hy214, hy214⟩ := hB.lst
    replace e_t19 := k211.tup hy214 e_t19
    replace e_t27 := k211.tup hy214 e_t27
    replace e_t35 := k211 _ _ ne_t35 e_t35
    replace hA_t35 := prs_keep k211 hy214 hA_t35
    replace e_t45 := k211 _ _ ne_t45 e_t45
    replace hA_t45 := prs_keep k211 hy214 hA_t45
    clear hB
    have hB := hB212
    replace kH := kH.trans k211
    refine ⟨_, rfl, iteT ?_⟩
    refine ⟨_, rfl, _, rfl, _, rfl, b, t27, t45, ps28, as46, qs47, M, n + 925, rfl, hB.mono (by omega), e_t27, hp29, by omega, by omega, mev, ne_t45, e_t45, hA_t45, hc48, fun H217 k215 hB216 => ?_⟩
    obtain ⟨y_hy218, hy218⟩ := hB.lst
    replace e_t19 := k215.tup hy218 e_t19
    replace e_t27 := k215.tup hy218 e_t27
    replace e_t35 := k215 _ _ ne_t35 e_t35
    replace hA_t35 := prs_keep k215 hy218 hA_t35
    replace e_t45 := k215 _ _ ne_t45 e_t45
    replace hA_t45 := prs_keep k215 hy218 hA_t45
    clear hB
    have hB := hB216
    replace kH := kH.trans k215
    exact q _ kH (hB.mono (by omega))
end
end Pc
namespace Pc
open PySem PySem.Spec PyProof.Rows L2 RZ
theorem sqL_at {K : PySem.W.Frag} {H H' : Hp} {a : Addr} {xs : List V} (h : SqL K H a xs) (k : ∀ o, H a = some o → H' a = some o) : SqL K H' a xs := by
  rcases h with (h | ⟨o, h⟩) | h
  · exact .inl (.inl (k _ h))
  · exact .inl (.inr ⟨o, k _ h⟩)
  · exact .inr h
theorem sqL_ne {K : PySem.W.Frag} {H H' : Hp} {a : Addr} {xs : List V} (h : SqL K H a xs) (k : ∀ o, H a = some o → H' a = some o) : SqL K H' a xs := sqL_at h k
end Pc
namespace Pc
open PySem PySem.Spec PyProof.Rows L2 RZ
section
variable {P : Program} {w : World} {K : PySem.W.Frag} {mg : Str → Option Value} {base : Heap}
/-! ### the law -/
def spLaw (K : PySem.W.Frag) : Sp := fun vs H Q _ => ∃ (a : Addr) (ns : List Int), vs = [.ref a] ∧ SqL K H a (ns.map V.int) ∧ ns.length ≤ 63 ∧ ∀ H', Q (.bl true) H'
theorem ok_law (T : Env K mg) {f : Addr} {fd : FuncData} (F : Fun K "law" "law" s_law f fd) : FnOk P w K mg base CX0 10 f fd ["_law_script"] (spLaw K) := by
  have GB : FnOk P w K mg base CX0 1 T.f_box T.d_box ["_law_script", "_law_k"] (spBox K) := ok_box T
  have GR : FnOk P w K mg base CX0 9 T.f_right T.d_right ["_law_box_here"] spRight := ok_right T
  refine F.ok sc_law (fun vs H Q E h => ?_) (fun cdv A outer s H vs Q E hr h => ?_)
  · obtain ⟨a, ns, rfl, _⟩ := h
    rfl
  · obtain ⟨a, ns, rfl, hS, hn, q⟩ := h
    have h1 := hr.mono (show 1 ≤ 9 by decide)
    refine ⟨_, pss_one (ps_ret (pe_callB (cr_all rfl) (by rfl) T.n_all (by decide +kernel) (pa_cons
        (pe_lc (own := [("_law_k", 1)]) (g := gName 1) (tt := tYes) rfl sc_law.nd (pi_range1 (by rfl) T.n_range (pa_cons (pe_op op_add pe_int (pe_callB (call_min2 rfl) (by rfl) T.n_min (by decide +kernel) (pa_cons pe_int (pa_cons (pe_callB call_len_seq (by rfl) T.n_len PySem.boot_len (pa_cons (pv 0) pa_nil)) pa_nil)))) pa_nil)) (blkOk_by (N := N_law) (sc := defScope s_law) (by decide +kernel))
          (fun _ _ _ _ _ => pg_name (i := 1) sc_law.nd rfl (.inl rfl)) (fun _ _ _ _ _ => pts_nil)
          (fun _ _ _ _ _ => pe_call GR hr (by rfl) T.g_right T.F_right.kp T.b_right .nil pass0 (pa_cons (pe_call GB h1 (by rfl) T.g_box T.F_box.kp T.b_box .nil pass0 (pa_cons (pv 0) (pa_cons (pv 1) pa_nil))) pa_nil))) pa_nil))), ?_⟩
    have hm : ∃ m : Nat, (1 : Int) + (if ((ns.map V.int).length : Int) < 3 then ((ns.map V.int).length : Int) else 3) = (m : Int) ∧ m ≤ 4 := by
      split
      · exact ⟨1 + (ns.map V.int).length, by omega, by omega⟩
      · exact ⟨4, by omega, by omega⟩
    obtain ⟨m, em, hm4⟩ := hm
    refine ⟨_, rfl, a, _, rfl, .inl hS, 3, _, rfl, 1, _, rfl, rfl, ?_⟩
    rw [show (fun (i j : Int) => V.int (i + j)) 1 (if ((ns.map V.int).length : Int) < 3 then ((ns.map V.int).length : Int) else 3) = V.int (m : Int) from congrArg V.int em]
    refine ⟨_, rfl, by omega, by omega, fun D nD => ?_⟩
    rw [show ((m : Int)).toNat = m by omega]
    refine lc_range (n := m) (fun i H' => (∀ o, H a = some o → H' a = some o) ∧ H' D = some (.lst (List.replicate i (.bl true)))) ⟨fun o ho => same_new nD _ _ ho, upd_same⟩ (fun i H1 hi hPv => ?_) (fun H1 hPv => ?_)
    · obtain ⟨ha1, eD⟩ := hPv
      have hS1 : SqL K H1 a (ns.map V.int) := sqL_at hS ha1
      refine ⟨rfl, yes_if ⟨_, rfl, _, rfl, a, ns, i, ?_, hS1, by omega, fun H2 b s2 nb hB2 => ?_⟩⟩
      · show [V.ref a, V.int ((0 : Int) + (i : Nat))] = _
        rw [Int.zero_add]
      have eD2 := s2 _ _ eD
      have bD : D ≠ b := fun z => by
        obtain ⟨x, y, zz, ex, _⟩ := hB2
        rw [z] at eD; rw [nb] at eD; cases eD
      refine ⟨b, 0, rfl, hB2.mono (by decide), fun H3 k3 hB3 => ⟨_, k3 _ _ bD eD2, ?_, ?_, ?_⟩⟩
      · rw [List.length_replicate]; exact small1000 (by omega)
      · intro o ho
        have h1 := ha1 o ho
        rw [upd_ne (ne_of_none ho nD)]
        exact k3 _ _ (ne_of_none h1 nb) (s2 _ _ h1)
      · rw [upd_same, List.replicate_succ']
    · obtain ⟨_, eD⟩ := hPv
      refine ⟨D, List.replicate m true, rfl, by rw [List.map_replicate]; exact .inl (.inl eD), ?_⟩
      rw [all_rep]
      exact q _
end
end Pc
namespace Pc
open PySem PySem.Spec PyProof.Rows L2 RZ
theorem all_mk {l : PySem.W.OpenLaw} {w : World} {K : PySem.W.Frag} {h : Heap} {mg : Str → Option Value} {fa f_p_check_person f_p_check_call f_p_check_word f_p_join_two f_p_people_of f_p_check_sizes f_p_empty_sheet f_p_with_word f_p_sheet_of f_p_far_end f_p_followed f_p_times f_p_followed_path f_p_result f_p_repeated f_p_common_multiple f_p_moves_of_strands f_p_period_of_sheet f_p_settles f_p_first_time f_p_moved f_p_renumbered f_p_word_renumbered f_p_joined f_box f_take f_pick f_strewn f_drawn_tie f_calls f_tour_of f_multiple f_first_right f_right f_law : Addr} (X : K.In h) (G : h.Ns mainGlobals mg) (hfa : mg "law" = some (.ref fa))
    {od_p_check_person an_p_check_person : Option Addr} {sl_p_check_person : Array (Option Value)} {oc_p_check_person kV_p_check_person dc_p_check_person pm_p_check_person cd_p_check_person ct_p_check_person : Value}
    {od_p_check_call an_p_check_call : Option Addr} {sl_p_check_call : Array (Option Value)} {oc_p_check_call kV_p_check_call dc_p_check_call pm_p_check_call cd_p_check_call ct_p_check_call : Value}
    {od_p_check_word an_p_check_word : Option Addr} {sl_p_check_word : Array (Option Value)} {oc_p_check_word kV_p_check_word dc_p_check_word pm_p_check_word cd_p_check_word ct_p_check_word : Value}
    {od_p_join_two an_p_join_two : Option Addr} {sl_p_join_two : Array (Option Value)} {oc_p_join_two kV_p_join_two dc_p_join_two pm_p_join_two cd_p_join_two ct_p_join_two : Value}
    {od_p_people_of an_p_people_of : Option Addr} {sl_p_people_of : Array (Option Value)} {oc_p_people_of kV_p_people_of dc_p_people_of pm_p_people_of cd_p_people_of ct_p_people_of : Value}
    {od_p_check_sizes an_p_check_sizes : Option Addr} {sl_p_check_sizes : Array (Option Value)} {oc_p_check_sizes kV_p_check_sizes dc_p_check_sizes pm_p_check_sizes cd_p_check_sizes ct_p_check_sizes : Value}
    {od_p_empty_sheet an_p_empty_sheet : Option Addr} {sl_p_empty_sheet : Array (Option Value)} {oc_p_empty_sheet kV_p_empty_sheet dc_p_empty_sheet pm_p_empty_sheet cd_p_empty_sheet ct_p_empty_sheet : Value}
    {od_p_with_word an_p_with_word : Option Addr} {sl_p_with_word : Array (Option Value)} {oc_p_with_word kV_p_with_word dc_p_with_word pm_p_with_word cd_p_with_word ct_p_with_word : Value}
    {od_p_sheet_of an_p_sheet_of : Option Addr} {sl_p_sheet_of : Array (Option Value)} {oc_p_sheet_of kV_p_sheet_of dc_p_sheet_of pm_p_sheet_of cd_p_sheet_of ct_p_sheet_of : Value}
    {od_p_far_end an_p_far_end : Option Addr} {sl_p_far_end : Array (Option Value)} {oc_p_far_end kV_p_far_end dc_p_far_end pm_p_far_end cd_p_far_end ct_p_far_end : Value}
    {od_p_followed an_p_followed : Option Addr} {sl_p_followed : Array (Option Value)} {oc_p_followed kV_p_followed dc_p_followed pm_p_followed cd_p_followed ct_p_followed : Value}
    {od_p_times an_p_times : Option Addr} {sl_p_times : Array (Option Value)} {oc_p_times kV_p_times dc_p_times pm_p_times cd_p_times ct_p_times : Value}
    {od_p_followed_path an_p_followed_path : Option Addr} {sl_p_followed_path : Array (Option Value)} {oc_p_followed_path kV_p_followed_path dc_p_followed_path pm_p_followed_path cd_p_followed_path ct_p_followed_path : Value}
    {od_p_result an_p_result : Option Addr} {sl_p_result : Array (Option Value)} {oc_p_result kV_p_result dc_p_result pm_p_result cd_p_result ct_p_result : Value}
    {od_p_repeated an_p_repeated : Option Addr} {sl_p_repeated : Array (Option Value)} {oc_p_repeated kV_p_repeated dc_p_repeated pm_p_repeated cd_p_repeated ct_p_repeated : Value}
    {od_p_common_multiple an_p_common_multiple : Option Addr} {sl_p_common_multiple : Array (Option Value)} {oc_p_common_multiple kV_p_common_multiple dc_p_common_multiple pm_p_common_multiple cd_p_common_multiple ct_p_common_multiple : Value}
    {od_p_moves_of_strands an_p_moves_of_strands : Option Addr} {sl_p_moves_of_strands : Array (Option Value)} {oc_p_moves_of_strands kV_p_moves_of_strands dc_p_moves_of_strands pm_p_moves_of_strands cd_p_moves_of_strands ct_p_moves_of_strands : Value}
    {od_p_period_of_sheet an_p_period_of_sheet : Option Addr} {sl_p_period_of_sheet : Array (Option Value)} {oc_p_period_of_sheet kV_p_period_of_sheet dc_p_period_of_sheet pm_p_period_of_sheet cd_p_period_of_sheet ct_p_period_of_sheet : Value}
    {od_p_settles an_p_settles : Option Addr} {sl_p_settles : Array (Option Value)} {oc_p_settles kV_p_settles dc_p_settles pm_p_settles cd_p_settles ct_p_settles : Value}
    {od_p_first_time an_p_first_time : Option Addr} {sl_p_first_time : Array (Option Value)} {oc_p_first_time kV_p_first_time dc_p_first_time pm_p_first_time cd_p_first_time ct_p_first_time : Value}
    {od_p_moved an_p_moved : Option Addr} {sl_p_moved : Array (Option Value)} {oc_p_moved kV_p_moved dc_p_moved pm_p_moved cd_p_moved ct_p_moved : Value}
    {od_p_renumbered an_p_renumbered : Option Addr} {sl_p_renumbered : Array (Option Value)} {oc_p_renumbered kV_p_renumbered dc_p_renumbered pm_p_renumbered cd_p_renumbered ct_p_renumbered : Value}
    {od_p_word_renumbered an_p_word_renumbered : Option Addr} {sl_p_word_renumbered : Array (Option Value)} {oc_p_word_renumbered kV_p_word_renumbered dc_p_word_renumbered pm_p_word_renumbered cd_p_word_renumbered ct_p_word_renumbered : Value}
    {od_p_joined an_p_joined : Option Addr} {sl_p_joined : Array (Option Value)} {oc_p_joined kV_p_joined dc_p_joined pm_p_joined cd_p_joined ct_p_joined : Value}
    {od_box an_box : Option Addr} {sl_box : Array (Option Value)} {oc_box kV_box dc_box pm_box cd_box ct_box : Value}
    {od_take an_take : Option Addr} {sl_take : Array (Option Value)} {oc_take kV_take dc_take pm_take cd_take ct_take : Value}
    {od_pick an_pick : Option Addr} {sl_pick : Array (Option Value)} {oc_pick kV_pick dc_pick pm_pick cd_pick ct_pick : Value}
    {od_strewn an_strewn : Option Addr} {sl_strewn : Array (Option Value)} {oc_strewn kV_strewn dc_strewn pm_strewn cd_strewn ct_strewn : Value}
    {od_drawn_tie an_drawn_tie : Option Addr} {sl_drawn_tie : Array (Option Value)} {oc_drawn_tie kV_drawn_tie dc_drawn_tie pm_drawn_tie cd_drawn_tie ct_drawn_tie : Value}
    {od_calls an_calls : Option Addr} {sl_calls : Array (Option Value)} {oc_calls kV_calls dc_calls pm_calls cd_calls ct_calls : Value}
    {od_tour_of an_tour_of : Option Addr} {sl_tour_of : Array (Option Value)} {oc_tour_of kV_tour_of dc_tour_of pm_tour_of cd_tour_of ct_tour_of : Value}
    {od_multiple an_multiple : Option Addr} {sl_multiple : Array (Option Value)} {oc_multiple kV_multiple dc_multiple pm_multiple cd_multiple ct_multiple : Value}
    {od_first_right an_first_right : Option Addr} {sl_first_right : Array (Option Value)} {oc_first_right kV_first_right dc_first_right pm_first_right cd_first_right ct_first_right : Value}
    {od_right an_right : Option Addr} {sl_right : Array (Option Value)} {oc_right kV_right dc_right pm_right cd_right ct_right : Value}
    {od_law an_law : Option Addr} {sl_law : Array (Option Value)} {oc_law kV_law dc_law pm_law cd_law ct_law : Value}
    (a_p_check_person : PySem.W.nsIn K mainGlobals "check_person" = some (some (.ref f_p_check_person))) (l_p_check_person : K.lookup f_p_check_person = some ⟨oc_p_check_person, od_p_check_person, .func (PySem.W.fnOf "check_person" "check_person" (defArgs s_p_check_person) (defBody s_p_check_person) (defScope s_p_check_person) .none kV_p_check_person dc_p_check_person pm_p_check_person an_p_check_person cd_p_check_person ct_p_check_person), sl_p_check_person⟩) (c_p_check_person : PySem.W.codeIn K cd_p_check_person "check_person" = true) (k_p_check_person : PySem.W.keepIn K (.ref f_p_check_person) = true)
    (a_p_check_call : PySem.W.nsIn K mainGlobals "check_call" = some (some (.ref f_p_check_call))) (l_p_check_call : K.lookup f_p_check_call = some ⟨oc_p_check_call, od_p_check_call, .func (PySem.W.fnOf "check_call" "check_call" (defArgs s_p_check_call) (defBody s_p_check_call) (defScope s_p_check_call) .none kV_p_check_call dc_p_check_call pm_p_check_call an_p_check_call cd_p_check_call ct_p_check_call), sl_p_check_call⟩) (c_p_check_call : PySem.W.codeIn K cd_p_check_call "check_call" = true) (k_p_check_call : PySem.W.keepIn K (.ref f_p_check_call) = true)
    (a_p_check_word : PySem.W.nsIn K mainGlobals "check_word" = some (some (.ref f_p_check_word))) (l_p_check_word : K.lookup f_p_check_word = some ⟨oc_p_check_word, od_p_check_word, .func (PySem.W.fnOf "check_word" "check_word" (defArgs s_p_check_word) (defBody s_p_check_word) (defScope s_p_check_word) .none kV_p_check_word dc_p_check_word pm_p_check_word an_p_check_word cd_p_check_word ct_p_check_word), sl_p_check_word⟩) (c_p_check_word : PySem.W.codeIn K cd_p_check_word "check_word" = true) (k_p_check_word : PySem.W.keepIn K (.ref f_p_check_word) = true)
    (a_p_join_two : PySem.W.nsIn K mainGlobals "join_two" = some (some (.ref f_p_join_two))) (l_p_join_two : K.lookup f_p_join_two = some ⟨oc_p_join_two, od_p_join_two, .func (PySem.W.fnOf "join_two" "join_two" (defArgs s_p_join_two) (defBody s_p_join_two) (defScope s_p_join_two) .none kV_p_join_two dc_p_join_two pm_p_join_two an_p_join_two cd_p_join_two ct_p_join_two), sl_p_join_two⟩) (c_p_join_two : PySem.W.codeIn K cd_p_join_two "join_two" = true) (k_p_join_two : PySem.W.keepIn K (.ref f_p_join_two) = true)
    (a_p_people_of : PySem.W.nsIn K mainGlobals "people_of" = some (some (.ref f_p_people_of))) (l_p_people_of : K.lookup f_p_people_of = some ⟨oc_p_people_of, od_p_people_of, .func (PySem.W.fnOf "people_of" "people_of" (defArgs s_p_people_of) (defBody s_p_people_of) (defScope s_p_people_of) .none kV_p_people_of dc_p_people_of pm_p_people_of an_p_people_of cd_p_people_of ct_p_people_of), sl_p_people_of⟩) (c_p_people_of : PySem.W.codeIn K cd_p_people_of "people_of" = true) (k_p_people_of : PySem.W.keepIn K (.ref f_p_people_of) = true)
    (a_p_check_sizes : PySem.W.nsIn K mainGlobals "check_sizes" = some (some (.ref f_p_check_sizes))) (l_p_check_sizes : K.lookup f_p_check_sizes = some ⟨oc_p_check_sizes, od_p_check_sizes, .func (PySem.W.fnOf "check_sizes" "check_sizes" (defArgs s_p_check_sizes) (defBody s_p_check_sizes) (defScope s_p_check_sizes) .none kV_p_check_sizes dc_p_check_sizes pm_p_check_sizes an_p_check_sizes cd_p_check_sizes ct_p_check_sizes), sl_p_check_sizes⟩) (c_p_check_sizes : PySem.W.codeIn K cd_p_check_sizes "check_sizes" = true) (k_p_check_sizes : PySem.W.keepIn K (.ref f_p_check_sizes) = true)
    (a_p_empty_sheet : PySem.W.nsIn K mainGlobals "empty_sheet" = some (some (.ref f_p_empty_sheet))) (l_p_empty_sheet : K.lookup f_p_empty_sheet = some ⟨oc_p_empty_sheet, od_p_empty_sheet, .func (PySem.W.fnOf "empty_sheet" "empty_sheet" (defArgs s_p_empty_sheet) (defBody s_p_empty_sheet) (defScope s_p_empty_sheet) .none kV_p_empty_sheet dc_p_empty_sheet pm_p_empty_sheet an_p_empty_sheet cd_p_empty_sheet ct_p_empty_sheet), sl_p_empty_sheet⟩) (c_p_empty_sheet : PySem.W.codeIn K cd_p_empty_sheet "empty_sheet" = true) (k_p_empty_sheet : PySem.W.keepIn K (.ref f_p_empty_sheet) = true)
    (a_p_with_word : PySem.W.nsIn K mainGlobals "with_word" = some (some (.ref f_p_with_word))) (l_p_with_word : K.lookup f_p_with_word = some ⟨oc_p_with_word, od_p_with_word, .func (PySem.W.fnOf "with_word" "with_word" (defArgs s_p_with_word) (defBody s_p_with_word) (defScope s_p_with_word) .none kV_p_with_word dc_p_with_word pm_p_with_word an_p_with_word cd_p_with_word ct_p_with_word), sl_p_with_word⟩) (c_p_with_word : PySem.W.codeIn K cd_p_with_word "with_word" = true) (k_p_with_word : PySem.W.keepIn K (.ref f_p_with_word) = true)
    (a_p_sheet_of : PySem.W.nsIn K mainGlobals "sheet_of" = some (some (.ref f_p_sheet_of))) (l_p_sheet_of : K.lookup f_p_sheet_of = some ⟨oc_p_sheet_of, od_p_sheet_of, .func (PySem.W.fnOf "sheet_of" "sheet_of" (defArgs s_p_sheet_of) (defBody s_p_sheet_of) (defScope s_p_sheet_of) .none kV_p_sheet_of dc_p_sheet_of pm_p_sheet_of an_p_sheet_of cd_p_sheet_of ct_p_sheet_of), sl_p_sheet_of⟩) (c_p_sheet_of : PySem.W.codeIn K cd_p_sheet_of "sheet_of" = true) (k_p_sheet_of : PySem.W.keepIn K (.ref f_p_sheet_of) = true)
    (a_p_far_end : PySem.W.nsIn K mainGlobals "far_end" = some (some (.ref f_p_far_end))) (l_p_far_end : K.lookup f_p_far_end = some ⟨oc_p_far_end, od_p_far_end, .func (PySem.W.fnOf "far_end" "far_end" (defArgs s_p_far_end) (defBody s_p_far_end) (defScope s_p_far_end) .none kV_p_far_end dc_p_far_end pm_p_far_end an_p_far_end cd_p_far_end ct_p_far_end), sl_p_far_end⟩) (c_p_far_end : PySem.W.codeIn K cd_p_far_end "far_end" = true) (k_p_far_end : PySem.W.keepIn K (.ref f_p_far_end) = true)
    (a_p_followed : PySem.W.nsIn K mainGlobals "followed" = some (some (.ref f_p_followed))) (l_p_followed : K.lookup f_p_followed = some ⟨oc_p_followed, od_p_followed, .func (PySem.W.fnOf "followed" "followed" (defArgs s_p_followed) (defBody s_p_followed) (defScope s_p_followed) .none kV_p_followed dc_p_followed pm_p_followed an_p_followed cd_p_followed ct_p_followed), sl_p_followed⟩) (c_p_followed : PySem.W.codeIn K cd_p_followed "followed" = true) (k_p_followed : PySem.W.keepIn K (.ref f_p_followed) = true)
    (a_p_times : PySem.W.nsIn K mainGlobals "times" = some (some (.ref f_p_times))) (l_p_times : K.lookup f_p_times = some ⟨oc_p_times, od_p_times, .func (PySem.W.fnOf "times" "times" (defArgs s_p_times) (defBody s_p_times) (defScope s_p_times) .none kV_p_times dc_p_times pm_p_times an_p_times cd_p_times ct_p_times), sl_p_times⟩) (c_p_times : PySem.W.codeIn K cd_p_times "times" = true) (k_p_times : PySem.W.keepIn K (.ref f_p_times) = true)
    (a_p_followed_path : PySem.W.nsIn K mainGlobals "followed_path" = some (some (.ref f_p_followed_path))) (l_p_followed_path : K.lookup f_p_followed_path = some ⟨oc_p_followed_path, od_p_followed_path, .func (PySem.W.fnOf "followed_path" "followed_path" (defArgs s_p_followed_path) (defBody s_p_followed_path) (defScope s_p_followed_path) .none kV_p_followed_path dc_p_followed_path pm_p_followed_path an_p_followed_path cd_p_followed_path ct_p_followed_path), sl_p_followed_path⟩) (c_p_followed_path : PySem.W.codeIn K cd_p_followed_path "followed_path" = true) (k_p_followed_path : PySem.W.keepIn K (.ref f_p_followed_path) = true)
    (a_p_result : PySem.W.nsIn K mainGlobals "result" = some (some (.ref f_p_result))) (l_p_result : K.lookup f_p_result = some ⟨oc_p_result, od_p_result, .func (PySem.W.fnOf "result" "result" (defArgs s_p_result) (defBody s_p_result) (defScope s_p_result) .none kV_p_result dc_p_result pm_p_result an_p_result cd_p_result ct_p_result), sl_p_result⟩) (c_p_result : PySem.W.codeIn K cd_p_result "result" = true) (k_p_result : PySem.W.keepIn K (.ref f_p_result) = true)
    (a_p_repeated : PySem.W.nsIn K mainGlobals "repeated" = some (some (.ref f_p_repeated))) (l_p_repeated : K.lookup f_p_repeated = some ⟨oc_p_repeated, od_p_repeated, .func (PySem.W.fnOf "repeated" "repeated" (defArgs s_p_repeated) (defBody s_p_repeated) (defScope s_p_repeated) .none kV_p_repeated dc_p_repeated pm_p_repeated an_p_repeated cd_p_repeated ct_p_repeated), sl_p_repeated⟩) (c_p_repeated : PySem.W.codeIn K cd_p_repeated "repeated" = true) (k_p_repeated : PySem.W.keepIn K (.ref f_p_repeated) = true)
    (a_p_common_multiple : PySem.W.nsIn K mainGlobals "common_multiple" = some (some (.ref f_p_common_multiple))) (l_p_common_multiple : K.lookup f_p_common_multiple = some ⟨oc_p_common_multiple, od_p_common_multiple, .func (PySem.W.fnOf "common_multiple" "common_multiple" (defArgs s_p_common_multiple) (defBody s_p_common_multiple) (defScope s_p_common_multiple) .none kV_p_common_multiple dc_p_common_multiple pm_p_common_multiple an_p_common_multiple cd_p_common_multiple ct_p_common_multiple), sl_p_common_multiple⟩) (c_p_common_multiple : PySem.W.codeIn K cd_p_common_multiple "common_multiple" = true) (k_p_common_multiple : PySem.W.keepIn K (.ref f_p_common_multiple) = true)
    (a_p_moves_of_strands : PySem.W.nsIn K mainGlobals "moves_of_strands" = some (some (.ref f_p_moves_of_strands))) (l_p_moves_of_strands : K.lookup f_p_moves_of_strands = some ⟨oc_p_moves_of_strands, od_p_moves_of_strands, .func (PySem.W.fnOf "moves_of_strands" "moves_of_strands" (defArgs s_p_moves_of_strands) (defBody s_p_moves_of_strands) (defScope s_p_moves_of_strands) .none kV_p_moves_of_strands dc_p_moves_of_strands pm_p_moves_of_strands an_p_moves_of_strands cd_p_moves_of_strands ct_p_moves_of_strands), sl_p_moves_of_strands⟩) (c_p_moves_of_strands : PySem.W.codeIn K cd_p_moves_of_strands "moves_of_strands" = true) (k_p_moves_of_strands : PySem.W.keepIn K (.ref f_p_moves_of_strands) = true)
    (a_p_period_of_sheet : PySem.W.nsIn K mainGlobals "period_of_sheet" = some (some (.ref f_p_period_of_sheet))) (l_p_period_of_sheet : K.lookup f_p_period_of_sheet = some ⟨oc_p_period_of_sheet, od_p_period_of_sheet, .func (PySem.W.fnOf "period_of_sheet" "period_of_sheet" (defArgs s_p_period_of_sheet) (defBody s_p_period_of_sheet) (defScope s_p_period_of_sheet) .none kV_p_period_of_sheet dc_p_period_of_sheet pm_p_period_of_sheet an_p_period_of_sheet cd_p_period_of_sheet ct_p_period_of_sheet), sl_p_period_of_sheet⟩) (c_p_period_of_sheet : PySem.W.codeIn K cd_p_period_of_sheet "period_of_sheet" = true) (k_p_period_of_sheet : PySem.W.keepIn K (.ref f_p_period_of_sheet) = true)
    (a_p_settles : PySem.W.nsIn K mainGlobals "settles" = some (some (.ref f_p_settles))) (l_p_settles : K.lookup f_p_settles = some ⟨oc_p_settles, od_p_settles, .func (PySem.W.fnOf "settles" "settles" (defArgs s_p_settles) (defBody s_p_settles) (defScope s_p_settles) .none kV_p_settles dc_p_settles pm_p_settles an_p_settles cd_p_settles ct_p_settles), sl_p_settles⟩) (c_p_settles : PySem.W.codeIn K cd_p_settles "settles" = true) (k_p_settles : PySem.W.keepIn K (.ref f_p_settles) = true)
    (a_p_first_time : PySem.W.nsIn K mainGlobals "first_time" = some (some (.ref f_p_first_time))) (l_p_first_time : K.lookup f_p_first_time = some ⟨oc_p_first_time, od_p_first_time, .func (PySem.W.fnOf "first_time" "first_time" (defArgs s_p_first_time) (defBody s_p_first_time) (defScope s_p_first_time) .none kV_p_first_time dc_p_first_time pm_p_first_time an_p_first_time cd_p_first_time ct_p_first_time), sl_p_first_time⟩) (c_p_first_time : PySem.W.codeIn K cd_p_first_time "first_time" = true) (k_p_first_time : PySem.W.keepIn K (.ref f_p_first_time) = true)
    (a_p_moved : PySem.W.nsIn K mainGlobals "moved" = some (some (.ref f_p_moved))) (l_p_moved : K.lookup f_p_moved = some ⟨oc_p_moved, od_p_moved, .func (PySem.W.fnOf "moved" "moved" (defArgs s_p_moved) (defBody s_p_moved) (defScope s_p_moved) .none kV_p_moved dc_p_moved pm_p_moved an_p_moved cd_p_moved ct_p_moved), sl_p_moved⟩) (c_p_moved : PySem.W.codeIn K cd_p_moved "moved" = true) (k_p_moved : PySem.W.keepIn K (.ref f_p_moved) = true)
    (a_p_renumbered : PySem.W.nsIn K mainGlobals "renumbered" = some (some (.ref f_p_renumbered))) (l_p_renumbered : K.lookup f_p_renumbered = some ⟨oc_p_renumbered, od_p_renumbered, .func (PySem.W.fnOf "renumbered" "renumbered" (defArgs s_p_renumbered) (defBody s_p_renumbered) (defScope s_p_renumbered) .none kV_p_renumbered dc_p_renumbered pm_p_renumbered an_p_renumbered cd_p_renumbered ct_p_renumbered), sl_p_renumbered⟩) (c_p_renumbered : PySem.W.codeIn K cd_p_renumbered "renumbered" = true) (k_p_renumbered : PySem.W.keepIn K (.ref f_p_renumbered) = true)
    (a_p_word_renumbered : PySem.W.nsIn K mainGlobals "word_renumbered" = some (some (.ref f_p_word_renumbered))) (l_p_word_renumbered : K.lookup f_p_word_renumbered = some ⟨oc_p_word_renumbered, od_p_word_renumbered, .func (PySem.W.fnOf "word_renumbered" "word_renumbered" (defArgs s_p_word_renumbered) (defBody s_p_word_renumbered) (defScope s_p_word_renumbered) .none kV_p_word_renumbered dc_p_word_renumbered pm_p_word_renumbered an_p_word_renumbered cd_p_word_renumbered ct_p_word_renumbered), sl_p_word_renumbered⟩) (c_p_word_renumbered : PySem.W.codeIn K cd_p_word_renumbered "word_renumbered" = true) (k_p_word_renumbered : PySem.W.keepIn K (.ref f_p_word_renumbered) = true)
    (a_p_joined : PySem.W.nsIn K mainGlobals "joined" = some (some (.ref f_p_joined))) (l_p_joined : K.lookup f_p_joined = some ⟨oc_p_joined, od_p_joined, .func (PySem.W.fnOf "joined" "joined" (defArgs s_p_joined) (defBody s_p_joined) (defScope s_p_joined) .none kV_p_joined dc_p_joined pm_p_joined an_p_joined cd_p_joined ct_p_joined), sl_p_joined⟩) (c_p_joined : PySem.W.codeIn K cd_p_joined "joined" = true) (k_p_joined : PySem.W.keepIn K (.ref f_p_joined) = true)
    (a_box : PySem.W.nsIn K mainGlobals "_law_box" = some (some (.ref f_box))) (l_box : K.lookup f_box = some ⟨oc_box, od_box, .func (PySem.W.fnOf "_law_box" "_law_box" (defArgs s_box) (defBody s_box) (defScope s_box) .none kV_box dc_box pm_box an_box cd_box ct_box), sl_box⟩) (c_box : PySem.W.codeIn K cd_box "_law_box" = true) (k_box : PySem.W.keepIn K (.ref f_box) = true)
    (a_take : PySem.W.nsIn K mainGlobals "_law_take" = some (some (.ref f_take))) (l_take : K.lookup f_take = some ⟨oc_take, od_take, .func (PySem.W.fnOf "_law_take" "_law_take" (defArgs s_take) (defBody s_take) (defScope s_take) .none kV_take dc_take pm_take an_take cd_take ct_take), sl_take⟩) (c_take : PySem.W.codeIn K cd_take "_law_take" = true) (k_take : PySem.W.keepIn K (.ref f_take) = true)
    (a_pick : PySem.W.nsIn K mainGlobals "_law_pick" = some (some (.ref f_pick))) (l_pick : K.lookup f_pick = some ⟨oc_pick, od_pick, .func (PySem.W.fnOf "_law_pick" "_law_pick" (defArgs s_pick) (defBody s_pick) (defScope s_pick) .none kV_pick dc_pick pm_pick an_pick cd_pick ct_pick), sl_pick⟩) (c_pick : PySem.W.codeIn K cd_pick "_law_pick" = true) (k_pick : PySem.W.keepIn K (.ref f_pick) = true)
    (a_strewn : PySem.W.nsIn K mainGlobals "_law_strewn" = some (some (.ref f_strewn))) (l_strewn : K.lookup f_strewn = some ⟨oc_strewn, od_strewn, .func (PySem.W.fnOf "_law_strewn" "_law_strewn" (defArgs s_strewn) (defBody s_strewn) (defScope s_strewn) .none kV_strewn dc_strewn pm_strewn an_strewn cd_strewn ct_strewn), sl_strewn⟩) (c_strewn : PySem.W.codeIn K cd_strewn "_law_strewn" = true) (k_strewn : PySem.W.keepIn K (.ref f_strewn) = true)
    (a_drawn_tie : PySem.W.nsIn K mainGlobals "_law_drawn_tie" = some (some (.ref f_drawn_tie))) (l_drawn_tie : K.lookup f_drawn_tie = some ⟨oc_drawn_tie, od_drawn_tie, .func (PySem.W.fnOf "_law_drawn_tie" "_law_drawn_tie" (defArgs s_drawn_tie) (defBody s_drawn_tie) (defScope s_drawn_tie) .none kV_drawn_tie dc_drawn_tie pm_drawn_tie an_drawn_tie cd_drawn_tie ct_drawn_tie), sl_drawn_tie⟩) (c_drawn_tie : PySem.W.codeIn K cd_drawn_tie "_law_drawn_tie" = true) (k_drawn_tie : PySem.W.keepIn K (.ref f_drawn_tie) = true)
    (a_calls : PySem.W.nsIn K mainGlobals "_law_calls" = some (some (.ref f_calls))) (l_calls : K.lookup f_calls = some ⟨oc_calls, od_calls, .func (PySem.W.fnOf "_law_calls" "_law_calls" (defArgs s_calls) (defBody s_calls) (defScope s_calls) .none kV_calls dc_calls pm_calls an_calls cd_calls ct_calls), sl_calls⟩) (c_calls : PySem.W.codeIn K cd_calls "_law_calls" = true) (k_calls : PySem.W.keepIn K (.ref f_calls) = true)
    (a_tour_of : PySem.W.nsIn K mainGlobals "_law_tour_of" = some (some (.ref f_tour_of))) (l_tour_of : K.lookup f_tour_of = some ⟨oc_tour_of, od_tour_of, .func (PySem.W.fnOf "_law_tour_of" "_law_tour_of" (defArgs s_tour_of) (defBody s_tour_of) (defScope s_tour_of) .none kV_tour_of dc_tour_of pm_tour_of an_tour_of cd_tour_of ct_tour_of), sl_tour_of⟩) (c_tour_of : PySem.W.codeIn K cd_tour_of "_law_tour_of" = true) (k_tour_of : PySem.W.keepIn K (.ref f_tour_of) = true)
    (a_multiple : PySem.W.nsIn K mainGlobals "_law_multiple" = some (some (.ref f_multiple))) (l_multiple : K.lookup f_multiple = some ⟨oc_multiple, od_multiple, .func (PySem.W.fnOf "_law_multiple" "_law_multiple" (defArgs s_multiple) (defBody s_multiple) (defScope s_multiple) .none kV_multiple dc_multiple pm_multiple an_multiple cd_multiple ct_multiple), sl_multiple⟩) (c_multiple : PySem.W.codeIn K cd_multiple "_law_multiple" = true) (k_multiple : PySem.W.keepIn K (.ref f_multiple) = true)
    (a_first_right : PySem.W.nsIn K mainGlobals "_law_first_right" = some (some (.ref f_first_right))) (l_first_right : K.lookup f_first_right = some ⟨oc_first_right, od_first_right, .func (PySem.W.fnOf "_law_first_right" "_law_first_right" (defArgs s_first_right) (defBody s_first_right) (defScope s_first_right) .none kV_first_right dc_first_right pm_first_right an_first_right cd_first_right ct_first_right), sl_first_right⟩) (c_first_right : PySem.W.codeIn K cd_first_right "_law_first_right" = true) (k_first_right : PySem.W.keepIn K (.ref f_first_right) = true)
    (a_right : PySem.W.nsIn K mainGlobals "_law_right" = some (some (.ref f_right))) (l_right : K.lookup f_right = some ⟨oc_right, od_right, .func (PySem.W.fnOf "_law_right" "_law_right" (defArgs s_right) (defBody s_right) (defScope s_right) .none kV_right dc_right pm_right an_right cd_right ct_right), sl_right⟩) (c_right : PySem.W.codeIn K cd_right "_law_right" = true) (k_right : PySem.W.keepIn K (.ref f_right) = true)
    (a_law : PySem.W.nsIn K mainGlobals "law" = some (some (.ref f_law))) (l_law : K.lookup f_law = some ⟨oc_law, od_law, .func (PySem.W.fnOf "law" "law" (defArgs s_law) (defBody s_law) (defScope s_law) .none kV_law dc_law pm_law an_law cd_law ct_law), sl_law⟩) (c_law : PySem.W.codeIn K cd_law "law" = true) (k_law : PySem.W.keepIn K (.ref f_law) = true)
    (z_len : PySem.W.nsIn K mainGlobals "len" = some none) (z_tuple : PySem.W.nsIn K mainGlobals "tuple" = some none) (z_list : PySem.W.nsIn K mainGlobals "list" = some none) (z_range : PySem.W.nsIn K mainGlobals "range" = some none) (z_enumerate : PySem.W.nsIn K mainGlobals "enumerate" = some none) (z_min : PySem.W.nsIn K mainGlobals "min" = some none) (z_max : PySem.W.nsIn K mainGlobals "max" = some none) (z_abs : PySem.W.nsIn K mainGlobals "abs" = some none) (z_int : PySem.W.nsIn K mainGlobals "int" = some none) (z_all : PySem.W.nsIn K mainGlobals "all" = some none) :
    ∃ fd : FuncData, (∀ (s : Shared) (v : Value), BindsTo s fd ⟨[v], []⟩ [("_law_script", v)]) ∧ ∀ base : Heap, K.In base → base.Ns mainGlobals mg → FnOk l.prog w K mg base CX0 10 fa fd ["_law_script"] (spLaw K) := by
  have e := hfa.symm.trans (PySem.W.mg_of X G a_law)
  cases e
  let T : Env K mg := {
    n_len := PySem.W.mg_none_of X G z_len,
    n_tuple := PySem.W.mg_none_of X G z_tuple,
    n_list := PySem.W.mg_none_of X G z_list,
    n_range := PySem.W.mg_none_of X G z_range,
    n_enumerate := PySem.W.mg_none_of X G z_enumerate,
    n_min := PySem.W.mg_none_of X G z_min,
    n_max := PySem.W.mg_none_of X G z_max,
    n_abs := PySem.W.mg_none_of X G z_abs,
    n_int := PySem.W.mg_none_of X G z_int,
    n_all := PySem.W.mg_none_of X G z_all,
    f_p_check_person := f_p_check_person, d_p_check_person := _, F_p_check_person := fun_mk (st := s_p_check_person) l_p_check_person c_p_check_person k_p_check_person, g_p_check_person := PySem.W.mg_of X G a_p_check_person,
    f_p_check_call := f_p_check_call, d_p_check_call := _, F_p_check_call := fun_mk (st := s_p_check_call) l_p_check_call c_p_check_call k_p_check_call, g_p_check_call := PySem.W.mg_of X G a_p_check_call,
    f_p_check_word := f_p_check_word, d_p_check_word := _, F_p_check_word := fun_mk (st := s_p_check_word) l_p_check_word c_p_check_word k_p_check_word, g_p_check_word := PySem.W.mg_of X G a_p_check_word,
    f_p_join_two := f_p_join_two, d_p_join_two := _, F_p_join_two := fun_mk (st := s_p_join_two) l_p_join_two c_p_join_two k_p_join_two, g_p_join_two := PySem.W.mg_of X G a_p_join_two,
    f_p_people_of := f_p_people_of, d_p_people_of := _, F_p_people_of := fun_mk (st := s_p_people_of) l_p_people_of c_p_people_of k_p_people_of, g_p_people_of := PySem.W.mg_of X G a_p_people_of,
    f_p_check_sizes := f_p_check_sizes, d_p_check_sizes := _, F_p_check_sizes := fun_mk (st := s_p_check_sizes) l_p_check_sizes c_p_check_sizes k_p_check_sizes, g_p_check_sizes := PySem.W.mg_of X G a_p_check_sizes,
    f_p_empty_sheet := f_p_empty_sheet, d_p_empty_sheet := _, F_p_empty_sheet := fun_mk (st := s_p_empty_sheet) l_p_empty_sheet c_p_empty_sheet k_p_empty_sheet, g_p_empty_sheet := PySem.W.mg_of X G a_p_empty_sheet,
    f_p_with_word := f_p_with_word, d_p_with_word := _, F_p_with_word := fun_mk (st := s_p_with_word) l_p_with_word c_p_with_word k_p_with_word, g_p_with_word := PySem.W.mg_of X G a_p_with_word,
    f_p_sheet_of := f_p_sheet_of, d_p_sheet_of := _, F_p_sheet_of := fun_mk (st := s_p_sheet_of) l_p_sheet_of c_p_sheet_of k_p_sheet_of, g_p_sheet_of := PySem.W.mg_of X G a_p_sheet_of,
    f_p_far_end := f_p_far_end, d_p_far_end := _, F_p_far_end := fun_mk (st := s_p_far_end) l_p_far_end c_p_far_end k_p_far_end, g_p_far_end := PySem.W.mg_of X G a_p_far_end,
    f_p_followed := f_p_followed, d_p_followed := _, F_p_followed := fun_mk (st := s_p_followed) l_p_followed c_p_followed k_p_followed, g_p_followed := PySem.W.mg_of X G a_p_followed,
    f_p_times := f_p_times, d_p_times := _, F_p_times := fun_mk (st := s_p_times) l_p_times c_p_times k_p_times, g_p_times := PySem.W.mg_of X G a_p_times,
    f_p_followed_path := f_p_followed_path, d_p_followed_path := _, F_p_followed_path := fun_mk (st := s_p_followed_path) l_p_followed_path c_p_followed_path k_p_followed_path, g_p_followed_path := PySem.W.mg_of X G a_p_followed_path,
    f_p_result := f_p_result, d_p_result := _, F_p_result := fun_mk (st := s_p_result) l_p_result c_p_result k_p_result, g_p_result := PySem.W.mg_of X G a_p_result,
    f_p_repeated := f_p_repeated, d_p_repeated := _, F_p_repeated := fun_mk (st := s_p_repeated) l_p_repeated c_p_repeated k_p_repeated, g_p_repeated := PySem.W.mg_of X G a_p_repeated,
    f_p_common_multiple := f_p_common_multiple, d_p_common_multiple := _, F_p_common_multiple := fun_mk (st := s_p_common_multiple) l_p_common_multiple c_p_common_multiple k_p_common_multiple, g_p_common_multiple := PySem.W.mg_of X G a_p_common_multiple,
    f_p_moves_of_strands := f_p_moves_of_strands, d_p_moves_of_strands := _, F_p_moves_of_strands := fun_mk (st := s_p_moves_of_strands) l_p_moves_of_strands c_p_moves_of_strands k_p_moves_of_strands, g_p_moves_of_strands := PySem.W.mg_of X G a_p_moves_of_strands,
    f_p_period_of_sheet := f_p_period_of_sheet, d_p_period_of_sheet := _, F_p_period_of_sheet := fun_mk (st := s_p_period_of_sheet) l_p_period_of_sheet c_p_period_of_sheet k_p_period_of_sheet, g_p_period_of_sheet := PySem.W.mg_of X G a_p_period_of_sheet,
    f_p_settles := f_p_settles, d_p_settles := _, F_p_settles := fun_mk (st := s_p_settles) l_p_settles c_p_settles k_p_settles, g_p_settles := PySem.W.mg_of X G a_p_settles,
    f_p_first_time := f_p_first_time, d_p_first_time := _, F_p_first_time := fun_mk (st := s_p_first_time) l_p_first_time c_p_first_time k_p_first_time, g_p_first_time := PySem.W.mg_of X G a_p_first_time,
    f_p_moved := f_p_moved, d_p_moved := _, F_p_moved := fun_mk (st := s_p_moved) l_p_moved c_p_moved k_p_moved, g_p_moved := PySem.W.mg_of X G a_p_moved,
    f_p_renumbered := f_p_renumbered, d_p_renumbered := _, F_p_renumbered := fun_mk (st := s_p_renumbered) l_p_renumbered c_p_renumbered k_p_renumbered, g_p_renumbered := PySem.W.mg_of X G a_p_renumbered,
    f_p_word_renumbered := f_p_word_renumbered, d_p_word_renumbered := _, F_p_word_renumbered := fun_mk (st := s_p_word_renumbered) l_p_word_renumbered c_p_word_renumbered k_p_word_renumbered, g_p_word_renumbered := PySem.W.mg_of X G a_p_word_renumbered,
    f_p_joined := f_p_joined, d_p_joined := _, F_p_joined := fun_mk (st := s_p_joined) l_p_joined c_p_joined k_p_joined, g_p_joined := PySem.W.mg_of X G a_p_joined,
    f_box := f_box, d_box := _, F_box := fun_mk (st := s_box) l_box c_box k_box, g_box := PySem.W.mg_of X G a_box,
    f_take := f_take, d_take := _, F_take := fun_mk (st := s_take) l_take c_take k_take, g_take := PySem.W.mg_of X G a_take,
    f_pick := f_pick, d_pick := _, F_pick := fun_mk (st := s_pick) l_pick c_pick k_pick, g_pick := PySem.W.mg_of X G a_pick,
    f_strewn := f_strewn, d_strewn := _, F_strewn := fun_mk (st := s_strewn) l_strewn c_strewn k_strewn, g_strewn := PySem.W.mg_of X G a_strewn,
    f_drawn_tie := f_drawn_tie, d_drawn_tie := _, F_drawn_tie := fun_mk (st := s_drawn_tie) l_drawn_tie c_drawn_tie k_drawn_tie, g_drawn_tie := PySem.W.mg_of X G a_drawn_tie,
    f_calls := f_calls, d_calls := _, F_calls := fun_mk (st := s_calls) l_calls c_calls k_calls, g_calls := PySem.W.mg_of X G a_calls,
    f_tour_of := f_tour_of, d_tour_of := _, F_tour_of := fun_mk (st := s_tour_of) l_tour_of c_tour_of k_tour_of, g_tour_of := PySem.W.mg_of X G a_tour_of,
    f_multiple := f_multiple, d_multiple := _, F_multiple := fun_mk (st := s_multiple) l_multiple c_multiple k_multiple, g_multiple := PySem.W.mg_of X G a_multiple,
    f_first_right := f_first_right, d_first_right := _, F_first_right := fun_mk (st := s_first_right) l_first_right c_first_right k_first_right, g_first_right := PySem.W.mg_of X G a_first_right,
    f_right := f_right, d_right := _, F_right := fun_mk (st := s_right) l_right c_right k_right, g_right := PySem.W.mg_of X G a_right }
  exact ⟨PySem.W.fnOf "law" "law" (defArgs s_law) (defBody s_law) (defScope s_law) .none kV_law dc_law pm_law an_law cd_law ct_law, fun s v => .of_eq rfl, fun base _ _ => ok_law T (fun_mk (st := s_law) l_law c_law k_law)⟩
end Pc
open PySem PySem.W PyProof.Rows
set_option maxHeartbeats 0 in
theorem PySem.Challenge.cw_partnercall_k64_whole_repetitions_togeth_holds : PySem.Challenge.rw_partnercall_k64_whole_repetitions_togeth.Holds := by
  w_on; o_law; k_head; (case hw => w_witness2)
  k_fill
  refine L2.walk_of (l := PySem.Challenge.rw_partnercall_k64_whole_repetitions_togeth) (n := 63) (k := 10) (x := "_law_script") (CX := fun _ => L2.CX0) (sp := fun w => Pc.spLaw _) rfl (by decide) rfl ⟨rfl, by decide, by decide⟩ (fun w h Y => PySem.W.kIn_of Y) ?F (fun _ _ a ns hl _ hS => ⟨a, ns, rfl, hS, hl, fun _ => rfl⟩) (fun _ _ _ _ _ h => h)
  case F =>
    intro w mg fa h KX G hmg
    refine' Pc.all_mk KX G hmg ?a_p_check_person ?l_p_check_person ?c_p_check_person ?k_p_check_person ?a_p_check_call ?l_p_check_call ?c_p_check_call ?k_p_check_call ?a_p_check_word ?l_p_check_word ?c_p_check_word ?k_p_check_word ?a_p_join_two ?l_p_join_two ?c_p_join_two ?k_p_join_two ?a_p_people_of ?l_p_people_of ?c_p_people_of ?k_p_people_of ?a_p_check_sizes ?l_p_check_sizes ?c_p_check_sizes ?k_p_check_sizes ?a_p_empty_sheet ?l_p_empty_sheet ?c_p_empty_sheet ?k_p_empty_sheet ?a_p_with_word ?l_p_with_word ?c_p_with_word ?k_p_with_word ?a_p_sheet_of ?l_p_sheet_of ?c_p_sheet_of ?k_p_sheet_of ?a_p_far_end ?l_p_far_end ?c_p_far_end ?k_p_far_end ?a_p_followed ?l_p_followed ?c_p_followed ?k_p_followed ?a_p_times ?l_p_times ?c_p_times ?k_p_times ?a_p_followed_path ?l_p_followed_path ?c_p_followed_path ?k_p_followed_path ?a_p_result ?l_p_result ?c_p_result ?k_p_result ?a_p_repeated ?l_p_repeated ?c_p_repeated ?k_p_repeated ?a_p_common_multiple ?l_p_common_multiple ?c_p_common_multiple ?k_p_common_multiple ?a_p_moves_of_strands ?l_p_moves_of_strands ?c_p_moves_of_strands ?k_p_moves_of_strands ?a_p_period_of_sheet ?l_p_period_of_sheet ?c_p_period_of_sheet ?k_p_period_of_sheet ?a_p_settles ?l_p_settles ?c_p_settles ?k_p_settles ?a_p_first_time ?l_p_first_time ?c_p_first_time ?k_p_first_time ?a_p_moved ?l_p_moved ?c_p_moved ?k_p_moved ?a_p_renumbered ?l_p_renumbered ?c_p_renumbered ?k_p_renumbered ?a_p_word_renumbered ?l_p_word_renumbered ?c_p_word_renumbered ?k_p_word_renumbered ?a_p_joined ?l_p_joined ?c_p_joined ?k_p_joined ?a_box ?l_box ?c_box ?k_box ?a_take ?l_take ?c_take ?k_take ?a_pick ?l_pick ?c_pick ?k_pick ?a_strewn ?l_strewn ?c_strewn ?k_strewn ?a_drawn_tie ?l_drawn_tie ?c_drawn_tie ?k_drawn_tie ?a_calls ?l_calls ?c_calls ?k_calls ?a_tour_of ?l_tour_of ?c_tour_of ?k_tour_of ?a_multiple ?l_multiple ?c_multiple ?k_multiple ?a_first_right ?l_first_right ?c_first_right ?k_first_right ?a_right ?l_right ?c_right ?k_right ?a_law ?l_law ?c_law ?k_law ?z_len ?z_tuple ?z_list ?z_range ?z_enumerate ?z_min ?z_max ?z_abs ?z_int ?z_all
    (case a_p_check_person => k_is); (case l_p_check_person => k_is); (case c_p_check_person => k_is); (case k_p_check_person => k_is); (case a_p_check_call => k_is); (case l_p_check_call => k_is); (case c_p_check_call => k_is); (case k_p_check_call => k_is); (case a_p_check_word => k_is); (case l_p_check_word => k_is); (case c_p_check_word => k_is); (case k_p_check_word => k_is); (case a_p_join_two => k_is); (case l_p_join_two => k_is); (case c_p_join_two => k_is); (case k_p_join_two => k_is); (case a_p_people_of => k_is); (case l_p_people_of => k_is); (case c_p_people_of => k_is); (case k_p_people_of => k_is); (case a_p_check_sizes => k_is); (case l_p_check_sizes => k_is); (case c_p_check_sizes => k_is); (case k_p_check_sizes => k_is); (case a_p_empty_sheet => k_is); (case l_p_empty_sheet => k_is); (case c_p_empty_sheet => k_is); (case k_p_empty_sheet => k_is); (case a_p_with_word => k_is); (case l_p_with_word => k_is); (case c_p_with_word => k_is); (case k_p_with_word => k_is); (case a_p_sheet_of => k_is); (case l_p_sheet_of => k_is); (case c_p_sheet_of => k_is); (case k_p_sheet_of => k_is); (case a_p_far_end => k_is); (case l_p_far_end => k_is); (case c_p_far_end => k_is); (case k_p_far_end => k_is); (case a_p_followed => k_is); (case l_p_followed => k_is); (case c_p_followed => k_is); (case k_p_followed => k_is); (case a_p_times => k_is); (case l_p_times => k_is); (case c_p_times => k_is); (case k_p_times => k_is); (case a_p_followed_path => k_is); (case l_p_followed_path => k_is); (case c_p_followed_path => k_is); (case k_p_followed_path => k_is); (case a_p_result => k_is); (case l_p_result => k_is); (case c_p_result => k_is); (case k_p_result => k_is); (case a_p_repeated => k_is); (case l_p_repeated => k_is); (case c_p_repeated => k_is); (case k_p_repeated => k_is); (case a_p_common_multiple => k_is); (case l_p_common_multiple => k_is); (case c_p_common_multiple => k_is); (case k_p_common_multiple => k_is); (case a_p_moves_of_strands => k_is); (case l_p_moves_of_strands => k_is); (case c_p_moves_of_strands => k_is); (case k_p_moves_of_strands => k_is); (case a_p_period_of_sheet => k_is); (case l_p_period_of_sheet => k_is); (case c_p_period_of_sheet => k_is); (case k_p_period_of_sheet => k_is); (case a_p_settles => k_is); (case l_p_settles => k_is); (case c_p_settles => k_is); (case k_p_settles => k_is); (case a_p_first_time => k_is); (case l_p_first_time => k_is); (case c_p_first_time => k_is); (case k_p_first_time => k_is); (case a_p_moved => k_is); (case l_p_moved => k_is); (case c_p_moved => k_is); (case k_p_moved => k_is); (case a_p_renumbered => k_is); (case l_p_renumbered => k_is); (case c_p_renumbered => k_is); (case k_p_renumbered => k_is); (case a_p_word_renumbered => k_is); (case l_p_word_renumbered => k_is); (case c_p_word_renumbered => k_is); (case k_p_word_renumbered => k_is); (case a_p_joined => k_is); (case l_p_joined => k_is); (case c_p_joined => k_is); (case k_p_joined => k_is); (case a_box => k_is); (case l_box => k_is); (case c_box => k_is); (case k_box => k_is); (case a_take => k_is); (case l_take => k_is); (case c_take => k_is); (case k_take => k_is); (case a_pick => k_is); (case l_pick => k_is); (case c_pick => k_is); (case k_pick => k_is); (case a_strewn => k_is); (case l_strewn => k_is); (case c_strewn => k_is); (case k_strewn => k_is); (case a_drawn_tie => k_is); (case l_drawn_tie => k_is); (case c_drawn_tie => k_is); (case k_drawn_tie => k_is); (case a_calls => k_is); (case l_calls => k_is); (case c_calls => k_is); (case k_calls => k_is); (case a_tour_of => k_is); (case l_tour_of => k_is); (case c_tour_of => k_is); (case k_tour_of => k_is); (case a_multiple => k_is); (case l_multiple => k_is); (case c_multiple => k_is); (case k_multiple => k_is); (case a_first_right => k_is); (case l_first_right => k_is); (case c_first_right => k_is); (case k_first_right => k_is); (case a_right => k_is); (case l_right => k_is); (case c_right => k_is); (case k_right => k_is); (case a_law => k_is); (case l_law => k_is); (case c_law => k_is); (case k_law => k_is); (case z_len => k_is); (case z_tuple => k_is); (case z_list => k_is); (case z_range => k_is); (case z_enumerate => k_is); (case z_min => k_is); (case z_max => k_is); (case z_abs => k_is); (case z_int => k_is); (case z_all => k_is)
