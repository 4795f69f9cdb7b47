import PyProof.Rows.All
import Wide.All
import OpenK.AllK
import Wide.FinOn
import HandS.ForMost
import HandS.IsInst
import HandS.TupAny
import HandS.TupMul
import HandS.Wide
import HandS.Codes
import HandS.DictComp
import HandS.Walk
import HandS.Zip
import HandS.Deep
import HandS.MakeKwOnly
import HandS.SortRule
import HandS.SortInts
import HandS.TupSets
import HandS.CallRecv
import HandS.ExcInit
import HandS.ClsMeth
import HandS.ExcField
import HandS.TryMany
import HandS.Lambda
import HandS.ExcIs
import HandS.WordsExc
import HandS.Style
import HandS.Strs
import HandS.EndOwn
import KE.KStateDown
import KE.KNest
import KE.KNestM
import HandS.Defaults
import HandS.Head0
import HandS.Head1
import HandS.Head2
import HandS.HeadHook1
import HandS.HeadHook2
import HandS.HeadHook3
import HandS.HeadHook4
import HandS.HeadWalk
import KE.GoesMore
import KE.KExcInit
import KE.KExcIs
import HandS.OwnEq
import HandS.Nested
import KE.KDflt
import PySem.Challenge.RW_tearboard_k04_figures_that_meet
set_option Elab.async false
set_option linter.all false
set_option maxRecDepth 100000
set_option maxHeartbeats 4000000
namespace TB
open PySem PySem.Spec PyProof.Rows L2
def topS (i : Nat) : Stmt := PySem.Challenge.pw_tearboard_k04_figures_that_meet.main.body.getD i (.Pass ⟨0, 0, 0, 0⟩)
/-! heaps -/
theorem same_upd {H : Hp} {p : Addr} {o : HO} (h : H p = none) : Same H (upd H p o) := fun b x e => by
  rw [upd_ne (ne_of_none e h)]
  exact e
/-- all that was tracked is as it was, but at b -/
def Off (b : Addr) (H H' : Hp) : Prop := ∀ a o, a ≠ b → H a = some o → H' a = some o
theorem Off.refl {b : Addr} {H : Hp} : Off b H H := fun _ _ _ h => h
theorem Off.trans {b : Addr} {H H1 H2 : Hp} (x : Off b H H1) (y : Off b H1 H2) : Off b H H2 := fun a o n h => y a o n (x a o n h)
theorem Off.same {b : Addr} {H H' : Hp} (x : Same H H') : Off b H H' := fun a o _ h => x a o h
theorem Off.upd {b : Addr} {H : Hp} {o : HO} : Off b H (upd H b o) := fun a x n h => by
  rw [upd_ne n]
  exact h
theorem Off.seqL {K : PySem.W.Frag} {b : Addr} {H H' : Hp} {a : Addr} {xs : List V} (x : Off b H H') (n : a ≠ b) (h : H a = some (.lst xs)) : H' a = some (.lst xs) := x a _ n h
/-- the bag of drawn numbers -/
structure Bag (H : Hp) (b c : Addr) : Prop where
  ex : ∃ (cells : List Int) (at' rest seed : Int), H b = some (.lst [.ref c, .int at', .int rest, .int seed]) ∧ H c = some (.lst (cells.map V.int)) ∧ 0 ≤ at' ∧ 0 ≤ rest ∧ 0 ≤ seed ∧ seed < 1000000000000 ∧ c ≠ b
theorem Bag.same {H H' : Hp} {b c : Addr} (h : Bag H b c) (x : Same H H') : Bag H' b c := by
  obtain ⟨cells, a, r, s, h1, h2, h3⟩ := h.ex
  exact ⟨cells, a, r, s, x _ _ h1, x _ _ h2, h3⟩
theorem Bag.ne {H : Hp} {b c p : Addr} (h : Bag H b c) (n : H p = none) : p ≠ b ∧ p ≠ c := by
  obtain ⟨cells, a, r, s, h1, h2, h3⟩ := h.ex
  exact ⟨(ne_of_none h1 n).symm, (ne_of_none h2 n).symm⟩
theorem Bag.upd {H : Hp} {b c p : Addr} {o : HO} (h : Bag H b c) (n : p ≠ b ∧ p ≠ c) : Bag (upd H p o) b c := by
  obtain ⟨cells, a, r, s, h1, h2, h3⟩ := h.ex
  refine ⟨cells, a, r, s, ?_, ?_, h3⟩
  · rw [upd_ne n.1.symm]
    exact h1
  · rw [upd_ne n.2.symm]
    exact h2
/-! ### exceptions of own classes over any of the plain built-in bases -/
/-- what the written part tells of the class at C; D is its mro behind C, B the built-in base -/
structure OexG (K : PySem.W.Frag) (C : Addr) : Prop where
  cls : ∃ (nm q : Str) (N : Addr) (bs bm : List Value) (sn : List Str) (sub : List Value) (ab : Bool) (col : Option Bool) (dd : Option Addr) (k0 k1 k2 k3 k5 : Option Value) (B nw it : String) (bmB : List Value),
    ExcBaseFacts B nw it bmB ∧ K.lookup C = some (excClassObj nm q C N bs bm true sn sub ab col dd k0 k1 k2 k3 k5 nw) ∧ (∀ Y : String, bm.contains (.type Y) = bmB.contains (.type Y)) ∧
      bmB.contains (.type "object") = true ∧ ∀ self : Value, refuseLoop self "__setattr__" (.ref C :: bm) = pure ()
  sa : PySem.W.findIn K (.ref C) "__setattr__" = some (some (.builtin "object.__setattr__"))
  exC : PySem.W.subIn K (.ref C) (.type "BaseException") = some true
  tyC : PySem.W.typeIn K (.ref C) = some (.type "type")
  kC : PySem.W.keepIn K (.ref C) = true
section
open Builtin Builtin.ObjectAttr PySem.W PySem.HandSPX
variable {prog : Program} {w : World} {A : Around} {R : Result → Shared → Prop} {hp : Heap} {g : Array GenState} {d : Drawn} {t : Nat} {os : OsState} {K : Frag} {name : Str} {tk : Tok} {v : Value} {x C : Addr} {fv : Array Value} {cd : ClassData}
/-- object.__setattr__ up to the own dict, whatever dict there is -/
theorem gosa {ox : Obj} {od : Option Obj} (hT : K.In hp) (I : InstAt hp x ox C od) (hcd : clsIn K C = some cd) (hne : cd.mro.isEmpty = false) (hob : cd.mro.contains (.type "object") = true) (hps : ∀ self : Value, refuseLoop self "__setattr__" cd.mro = pure ())
    (hno : findIn K (.ref C) name = some none)
    (hq : wpAny (model prog w) A.in1 (storeInOwnDict (.ref x) (.ref C) (.str name tk) name v false) (fun fin s' => match fin with | .done (.ret u) => R (.ok (.ret u)) s' | _ => False) (fun _ _ => False) ⟨hp, g, d, t, os⟩) :
    codeAny (model prog w) A (.call (.builtin "object.__setattr__") ⟨[.ref x, .str name tk, v], []⟩) R ⟨hp, g, d, t, os⟩ := by
  have so := PySem.F.store_object
  have isO : Looks (model prog w) hp (isInstance (.ref x) (.type "object")) true := I.type.andThen (looks_mroIn hT (by unfold mroIn; rw [hcd, Option.bind_some, if_neg (by rw [hne]; decide), hob]))
  refine codeAny_call_builtin so.slot.plain so.entry (@check_slot (model prog w) _ _ ⟨hp, g, d, t, os⟩ "object.__setattr__" "object" "__setattr__" (.ref x) [.str name tk, v] [] _ so.kind so.split isO (so.args (.ref x) (.str name tk) v) ?_)
  have lm : Looks (model prog w) hp (mroOf (.ref C)) cd.mro := (looks_clsIn hT hcd).andThen .now
  have ln : Looks (model prog w) hp (storeTaker? none) none := .now
  rw [osa_eq, refuse_eq]
  refine wpAny_bind (wpAny_bind (I.type.at (wpAny_bind (lm.at ?_))))
  rw [hps]
  refine wpAny_pure (wpAny_bind (I.type.at (wpAny_bind ((looks_findIn hT hno).at (wpAny_bind (ln.at ?_))))))
  refine wpAny_mono hq (fun fin s' z => ?_) fun _ _ z => z.elim
  rcases fin with (_ | _ | _ | _) | c <;> first | exact z | exact z.elim
/-- the first field: the dict is new -/
theorem gosa_new (hT : K.In hp) (hx : hp.get? x = some { cls := .ref C, data := .fields fv }) (hcd : clsIn K C = some cd) (hne : cd.mro.isEmpty = false) (hob : cd.mro.contains (.type "object") = true) (hps : ∀ self : Value, refuseLoop self "__setattr__" cd.mro = pure ())
    (hh : cd.hasDict = true) (hno : findIn K (.ref C) name = some none)
    (hq : ∀ h' tk' dx, (∀ b o, b ≠ x → hp.get? b = some o → h'.get? b = some o) → hp.objs.size ≤ dx → dx ≠ x → h'.get? x = some { cls := .ref C, dict := some dx, data := .fields fv } →
      h'.Ns1 dx (fun y => if y = name then some v else none) → R (.ok (.ret .none)) ⟨h', g, d, tk', os⟩) :
    codeAny (model prog w) A (.call (.builtin "object.__setattr__") ⟨[.ref x, .str name tk, v], []⟩) R ⟨hp, g, d, t, os⟩ := by
  refine gosa hT (⟨hx, rfl, rfl, trivial⟩ : InstAt hp x { cls := .ref C, data := .fields fv } C none) hcd hne hob hps hno ?_
  have lc : Looks (model prog w) hp (classData C) cd := looks_clsIn hT hcd
  have far : x ≠ hp.objs.size := Nat.ne_of_lt (Heap.lt_size hx)
  cases cd
  dsimp only at hh
  subst hh
  unfold storeInOwnDict ownDictForStores
  repeat (first | with_reducible refine store_in_new ?_ ?_ | with_reducible refine wpAny_loadPart_at hx ?_ | with_reducible refine lc.at ?_ | wp_step)
  · exact ⟨_, #[], _, (Heap.get?_update_ne _ _ _ _ far.symm).trans (Heap.get?_push_at rfl rfl), rfl, fun e he => absurd he (by simp), fun _ => rfl⟩
  · intro h' tk' hn' hs
    refine hq h' tk' hp.objs.size (fun b o hb ho => ?_) (Nat.le_refl _) far.symm ?_ hn'
    · exact (hs.2 b (Nat.ne_of_lt (Heap.lt_size ho))).trans ((Heap.get?_update_ne _ _ _ _ hb).trans (Heap.get?_push_of_some _ ho))
    · exact (hs.2 x far).trans (Heap.get?_update_self _ (Heap.get?_push_of_some _ hx) rfl)
/-- a later field: the dict is there -/
theorem gosa_old {dx : Addr} {m0 : Str → Option Value} {nl : List Str} (hT : K.In hp) (hx : hp.get? x = some { cls := .ref C, dict := some dx, data := .fields fv }) (hns : hp.Ns1 dx m0) (hw : Within m0 nl) (hz : nl.length ≤ 1000)
    (hcd : clsIn K C = some cd) (hne : cd.mro.isEmpty = false) (hob : cd.mro.contains (.type "object") = true) (hps : ∀ self : Value, refuseLoop self "__setattr__" cd.mro = pure ()) (hh : cd.hasDict = true) (hno : findIn K (.ref C) name = some none)
    (hq : ∀ h' tk', (∀ b o, b ≠ dx → hp.get? b = some o → h'.get? b = some o) → h'.Ns1 dx (fun y => if y = name then some v else m0 y) → R (.ok (.ret .none)) ⟨h', g, d, tk', os⟩) :
    codeAny (model prog w) A (.call (.builtin "object.__setattr__") ⟨[.ref x, .str name tk, v], []⟩) R ⟨hp, g, d, t, os⟩ := by
  obtain ⟨oD, _, _, hoD, _, _⟩ := hns.count hw
  refine gosa hT (⟨hx, rfl, rfl, hoD⟩ : InstAt hp x { cls := .ref C, dict := some dx, data := .fields fv } C (some oD)) hcd hne hob hps hno ?_
  have lc : Looks (model prog w) hp (classData C) cd := looks_clsIn hT hcd
  cases cd
  dsimp only at hh
  subst hh
  unfold storeInOwnDict ownDictForStores
  repeat (first | with_reducible refine PySem.OEX.store_in_old hns hw hz ?_ | with_reducible refine wpAny_loadPart_at hx ?_ | with_reducible refine lc.at ?_ | wp_step)
  intro h' tk' hn' hs
  exact hq h' tk' (fun b o hb ho => (hs.2 b hb).trans ho) hn'
end
section
variable {X : Cx} {pins : List (Addr × Obj)} {σ : L2.St} {H : Hp} {s : Shared} {a C dx : Addr} {f : Str} {y : V} {u : Value} {fs : List (Str × V)} {Q : Unit → Shared → Prop} {E : Value → Shared → Prop} {A : Around}
theorem OexG.clsD {K : PySem.W.Frag} {C : Addr} (T : OexG K C) : ∃ cd, PySem.W.clsIn K C = some cd ∧ cd.mro.isEmpty = false ∧ cd.mro.contains (.type "object") = true ∧ (∀ self : Value, refuseLoop self "__setattr__" cd.mro = pure ()) ∧ cd.hasDict = true := by
  obtain ⟨nm, q, N, bs, bm, sn, sub, ab, col, dd, k0, k1, k2, k3, k5, B, nw, it, bmB, F, hC, hc, ho, hp⟩ := T.cls
  refine ⟨{ name := nm, bases := bs, mro := .ref C :: bm, ns := N, qualname := q, hasDict := true, slotNames := sn, subclasses := sub, abstract := ab, collection := col, hasDel := false }, by unfold PySem.W.clsIn; rw [hC] <;> rfl, rfl, ?_, hp, rfl⟩
  show (Value.ref C :: bm).contains (.type "object") = true
  rw [List.contains_cons, hc, ho, Bool.or_true]
/-- self.f = y, the first field -/
theorem gost_new (T : OexG X.K C) (I : Inv X pins σ H s) (e : H a = some (exo a C none)) (hno : PySem.W.findIn X.K (.ref C) f = some none) (ry : RelV y u)
    (h : ∀ dx s', H dx = none → dx ≠ a → Inv X pins σ (upd (upd H dx (exd dx [(f, y)])) a (exo a C (some dx))) s' → Q () s') : wpAny (model X.prog X.w) A (setAttr (.ref a) f u) Q E s := by
  obtain ⟨cd, hcd, c1, c2, c3, c4⟩ := T.clsD
  obtain ⟨t1, ho⟩ := exo_at I.hok e
  obtain ⟨hp, g, dr, tk, os⟩ := s
  refine PySem.W.set_plain I.kIn (ox := { cls := .ref C, dict := none, data := .fields #[.ref t1, .none, .none, .none, .bool false, .none] }) (od := none) ⟨ho, rfl, rfl, trivial⟩ T.sa ?_
  refine gosa_new I.kIn ho hcd c1 c2 c3 c4 hno fun h' tk' dx kp big ndx hx hn => ?_
  have n0 : H dx = none := I.hok.fresh big
  have nd : ∀ {b : Addr} {o : Obj}, hp.get? b = some o → b ≠ dx := fun {b o} z => Nat.ne_of_lt (Nat.lt_of_lt_of_le (Heap.lt_size z) big)
  have na : ∀ {b : Addr}, H b = none → b ≠ a := fun {b} z1 z2 => by
    rw [z2, e] at z1
    cases z1
  have U : Un X.fs [] H (upd (upd H dx (exd dx [(f, y)])) a (exo a C (some dx))) hp h' :=
    ⟨fun b o z n _ _ => kp b o (na n) z, fun b o z n _ _ => ⟨o.slots, kp b o (na n) z⟩, fun b o z n _ => by rw [upd_ne (na n), upd_ne (nd z)]; exact n, fun b o z _ => by
      by_cases hb : b = a
      · exact ⟨_, by rw [hb]; exact hx⟩
      · exact ⟨o, kp b o hb z⟩,
     fun b xs z => by rw [upd_ne (at_ne e z exo_tup), upd_ne (ne_of_none z n0)]; exact z, fun b o w z => by rw [upd_ne (at_ne e z exo_frz), upd_ne (ne_of_none z n0)]; exact z,
     fun b ps z => ⟨#[], by rw [upd_ne (at_ne e z exo_tbl), upd_ne (ne_of_none z n0), z]; simp⟩⟩
  refine h dx _ n0 ndx (I.un (t' := tk') U fun b o z => ?_)
  by_cases hb : b = a
  · rw [hb, upd_same] at z
    cases z
    rw [hb]
    exact exo_ok hx
  rw [upd_ne hb] at z
  by_cases hd : b = dx
  · rw [hd, upd_same] at z
    cases z
    rw [hd]
    exact exd_ok hn (relO_put (fs := []) ry fun _ => True.intro)
  rw [upd_ne hd] at z
  refine (I.hok b o z).stay (fun c w hc z' => kp c w ?_ z') (fun c hc => ?_) fun c xs hc => ?_
  · rcases hc with hc | hc
    · rw [hc]
      exact hb
    · exact at_ne e hc exo_own
  · rw [upd_ne (at_ne e hc exo_own), upd_ne (ne_of_none hc n0)]
    exact hc
  · rw [upd_ne (at_ne e hc exo_tup), upd_ne (ne_of_none hc n0)]
    exact hc
/-- self.f = y, a later field -/
theorem gost_old (T : OexG X.K C) (I : Inv X pins σ H s) (e : H a = some (exo a C (some dx))) (ed : H dx = some (exd dx fs)) (hl : fs.length ≤ 900) (hno : PySem.W.findIn X.K (.ref C) f = some none) (ry : RelV y u)
    (h : ∀ s', Inv X pins σ (upd H dx (exd dx ((f, y) :: fs))) s' → Q () s') : wpAny (model X.prog X.w) A (setAttr (.ref a) f u) Q E s := by
  obtain ⟨cd, hcd, c1, c2, c3, c4⟩ := T.clsD
  obtain ⟨t1, ho⟩ := exo_at I.hok e
  obtain ⟨mA, hns, rel⟩ := exd_at I.hok ed
  have hw := within_of rel
  obtain ⟨hp, g, dr, tk, os⟩ := s
  obtain ⟨oD, _, _, hoD, _, _⟩ := hns.count hw
  refine PySem.W.set_plain I.kIn (ox := { cls := .ref C, dict := some dx, data := .fields #[.ref t1, .none, .none, .none, .bool false, .none] }) (od := some oD) ⟨ho, rfl, rfl, hoD⟩ T.sa ?_
  refine gosa_old I.kIn ho hns hw (by rw [List.length_map]; omega) hcd c1 c2 c3 c4 hno fun h' tk' kp hn => ?_
  have st : ∃ o, h'.get? dx = some o := by
    obtain ⟨o, _, _, z, _⟩ := hn
    exact ⟨o, z⟩
  exact h _ (I.write (t' := tk') (x := dx) (e := dx) (o := exd dx ((f, y) :: fs)) (by rw [ed]; exact True.intro) (.inl rfl) kp st (exd_ok hn (relO_put ry rel)))
end
/-- self.f = e, self an exception that is being made -/
def tGst (K : PySem.W.Frag) (f : Str) (to te : TE) : TS := fun D σ H => te σ H fun y H1 => to σ H1 fun x H2 => ∃ a C : Addr, x = .ref a ∧ OexG K C ∧ PySem.W.findIn K (.ref C) f = some none ∧
  ((H2 a = some (exo a C none) ∧ ∀ dx, H2 dx = none → dx ≠ a → D.nx σ (upd (upd H2 dx (exd dx [(f, y)])) a (exo a C (some dx)))) ∨
    ∃ (dx : Addr) (fs : List (Str × V)), H2 a = some (exo a C (some dx)) ∧ H2 dx = some (exd dx fs) ∧ fs.length ≤ 900 ∧ D.nx σ (upd H2 dx (exd dx ((f, y) :: fs))))
section
variable {X : Cx} {o e : Expr} {es : List Expr} {to te : TE} {ta : TA} {f : Str} {p p' p1 p2 pos : Pos}
theorem ps_gst (ho : PE X o to) (he : PE X e te) (hs : swapsWith e (some (.Attribute o f p')) pos.line X.env = pure false := by rfl) : PS X (.Assign [.Attribute o f p'] e pos) (tGst X.K f to te) := by
  refine ⟨fun pins s σ H D I h => ?_⟩
  refine plainObj_wpAny_Assign_Attribute (thn (he.run pins s σ H _ I h) fun v s1 ⟨y, H1, I1, r1, q1⟩ => thn (ho.run pins s1 σ H1 _ I1 q1) fun u s2 z => ?_) hs
  obtain ⟨x, H2, I2, r2, a, C, rfl, T, hno, q⟩ := z
  obtain rfl : u = Value.ref a := r2
  rcases q with ⟨ea, q⟩ | ⟨dx, fs, ea, ed, hl, q⟩
  · exact gost_new T I2 ea hno r1 fun dx s' n ne J => ⟨σ, _, J, q dx n ne⟩
  · exact gost_old T I2 ea ed hl hno r1 fun s' J => ⟨σ, _, J, q⟩
end
/-! ### making such an exception: C(e, ..), its own __init__ keeping sp -/
section
variable {X : Cx} {pins : List (Addr × Obj)} {σ : L2.St} {CX : CXT} {C fI : Addr} {k : Nat} {fd : FuncData} {ps : List Str} {sp : Sp} {ds : List Value} {dvs : List V}
/-- the call, its arguments at hand; G: what is wanted behind it -/
theorem gmake {H1 : Hp} {us : List Value} {vs : List V} {s1 : Shared} {Q' : VK} {G : Value → Shared → Prop} (T : OexG X.K C) (iC : PySem.W.findIn X.K (.ref C) "__init__" = some (some (.ref fI))) (tI : PySem.W.typeIn X.K (.ref fI) = some (.type "function"))
    (F1 : FnOk X.prog X.w X.K X.mg X.base CX k fI fd ps sp) (hr : Room (k + 1) X.A) (hb : Binds X.K fd ps ds) (hd : Vals dvs ds) (hx : Passes CX X (fun _ _ _ => False)) (I1 : Inv X pins σ H1 s1) (r1 : Vals vs us) (hz : vs.length ≤ 1000)
    (q1 : sp (.ref (s1.heap.objs.size + 1) :: (vs ++ dvs)) (upd H1 (s1.heap.objs.size + 1) (exo (s1.heap.objs.size + 1) C none)) Q' (fun _ _ _ => False))
    (hG : ∀ (s0 s2 : Shared) (u : Value), (∀ b o, s1.heap.get? b = some o → s0.heap.get? b = some o) → s0.os = s1.os → Inv X pins σ (upd H1 (s1.heap.objs.size + 1) (exo (s1.heap.objs.size + 1) C none)) s0 →
      CE X.stack X.prog X.w (upd H1 (s1.heap.objs.size + 1) (exo (s1.heap.objs.size + 1) C none)) s0 Q' u s2 → u = .none ∧ G (.ref (s1.heap.objs.size + 1)) s2) :
    wpAny (model X.prog X.w) X.A (call (.ref C) us) G X.xe s1 := by
  obtain ⟨nm, q, N, bs, bm, sn, sub, ab, col, dd, k0, k1, k2, k3, k5, B, nw, it, bmB, FB, hC, hc, _, _⟩ := T.cls
  obtain ⟨hp, g, dr, tk, os⟩ := s1
  dsimp only at q1 hG
  have up : ∀ b o, hp.get? b = some o → ((hp.push (PySem.W.kdv_tup us)).push (PySem.HandSPX.excO C hp.objs.size)).get? b = some o := fun b o z => Heap.get?_push_of_some _ (Heap.get?_push_of_some _ z)
  have new : ((hp.push (PySem.W.kdv_tup us)).push (PySem.HandSPX.excO C hp.objs.size)).get? (hp.objs.size + 1) = some (PySem.HandSPX.excO C hp.objs.size) := by heap_get
  have J : Inv X pins σ (upd H1 (hp.objs.size + 1) (exo (hp.objs.size + 1) C none)) ⟨(hp.push (PySem.W.kdv_tup us)).push (PySem.HandSPX.excO C hp.objs.size), g, dr, tk, os⟩ :=
    I1.laid (t' := tk) (a := hp.objs.size + 1) (o := exo (hp.objs.size + 1) C none) (h' := (hp.push (PySem.W.kdv_tup us)).push (PySem.HandSPX.excO C hp.objs.size)) up (Nat.le_succ _) (exo_ok new)
  have rr : Vals (V.ref (hp.objs.size + 1) :: (vs ++ dvs)) (Value.ref (hp.objs.size + 1) :: (us ++ ds)) := .cons rfl (r1.append hd)
  have hl : (Value.ref (hp.objs.size + 1) :: us ++ ds).length = ps.length := rr.length.symm.trans (F1.len _ _ _ _ q1)
  have hu : us.length ≤ sizeLine := by
    rw [← Paired.length r1, sizeLine_eq]
    omega
  refine wpAny_call (PySem.HandSPX.call_own FB hc (I1.kIn _ _ hC) (PySem.W.looks_findIn I1.kIn iC) (fun self => PySem.W.bind_fn I1.kIn self tI) hu ?_)
  refine codeAny_mono (F1.run _ X.stack _ _ ⟨Value.ref (hp.objs.size + 1) :: us, []⟩ (Value.ref (hp.objs.size + 1) :: (us ++ ds)) _ _ (fun _ _ _ => False) (hr.make C us []) (J.env0.make C us []) (hb _ (Value.ref (hp.objs.size + 1) :: us) J.kIn hl) rr q1) fun r s' z => ?_
  cases r with
  | error er => exact hx pins σ _ _ er s' J z
  | ok fl =>
    cases fl with
    | ret u => exact hG _ s' u up rfl J z
    | next => exact False.elim z
    | brk => exact False.elim z
    | cont => exact False.elim z
/-- .. to be raised -/
theorem gmake_x {H1 : Hp} {us : List Value} {vs : List V} {s1 : Shared} {Q : XK} (T : OexG X.K C) (iC : PySem.W.findIn X.K (.ref C) "__init__" = some (some (.ref fI))) (tI : PySem.W.typeIn X.K (.ref fI) = some (.type "function"))
    (F1 : FnOk X.prog X.w X.K X.mg X.base CX k fI fd ps sp) (hr : Room (k + 1) X.A) (hb : Binds X.K fd ps ds) (hd : Vals dvs ds) (hx : Passes CX X (fun _ _ _ => False)) (I1 : Inv X pins σ H1 s1) (r1 : Vals vs us) (hz : vs.length ≤ 1000)
    (q1 : ∀ a, H1 a = none → sp (.ref a :: (vs ++ dvs)) (upd H1 a (exo a C none))
      (fun v H2 => v = .non ∧ ∃ (d : Addr) (fs : List (Str × V)), H2 a = some (exo a C (some d)) ∧ H2 d = some (exd d fs) ∧ H1 d = none ∧ Q (.ref C) (some d) (upd (del H2 a) d (.xd fs))) (fun _ _ _ => False)) :
    wpAny (model X.prog X.w) X.A (call (.ref C) us) (MkP X pins σ Q) X.xe s1 := by
  refine gmake T iC tI F1 hr hb hd hx I1 r1 hz (q1 _ (I1.hok.fresh (Nat.le_succ _))) fun s0 s2 u up e0 J z => ?_
  obtain ⟨v, H2, os2, bare2, un2, hok2, rv, ev, d, fs, ea, ed, hd1, q2⟩ := z
  subst ev
  obtain ⟨h1, g1, d1, t1, o1⟩ := s1
  obtain ⟨h2, g2, d2, t2, o2⟩ := s2
  obtain ⟨h0, g0, d0, t0, o0⟩ := s0
  obtain rfl : o0 = o1 := e0
  exact ⟨rv, mk_end (raises_own T.exC T.tyC) I1 (Nat.le_succ _) up un2 hok2 os2 bare2 ea ed hd1 q2⟩
variable {x : Str} {p pos : Pos} {e : Expr} {es : List Expr} {ta : TA}
theorem pmk_gex (T : OexG X.K C) (iC : PySem.W.findIn X.K (.ref C) "__init__" = some (some (.ref fI))) (tI : PySem.W.typeIn X.K (.ref fI) = some (.type "function"))
    (F1 : FnOk X.prog X.w X.K X.mg X.base CX k fI fd ps sp) (hr : Room (k + 1) X.A) (hb : Binds X.K fd ps ds) (hd : Vals dvs ds) (hx : Passes CX X (fun _ _ _ => False)) (hg : Gl X x) (hm : X.mg x = some (.ref C)) (ha : PA X (e :: es) ta)
    (hdb : (x == ("__debug__" : Str)) = false := by decide) (he : starEach (e :: es) X.env = (false, eval e X.env) :: starEach es X.env := by rfl) (hpl : (backTo pos (starEach es X.env)).any (·.1) = false := by rfl) :
    PMk X (.Call (.Name x p) (e :: es) [] pos) (tMkO C sp dvs ta) := by
  intro pins s σ H Q I h
  refine wpAny_Call_Name_kw (ld_glob I hg hm ?_ hdb)
  refine PySem.W.callWith_K (h₀ := X.base) I.ok.mod.kin T.kC (thn (ha.run pos pins s σ H _ I h) fun us s1 z => ?_) he hpl
  obtain ⟨vs, H1, I1, r1, hz, q1⟩ := z
  exact ⟨I1.kIn, gmake_x T iC tI F1 hr hb hd hx I1 r1 hz q1⟩
theorem pmk_gex0 (T : OexG X.K C) (iC : PySem.W.findIn X.K (.ref C) "__init__" = some (some (.ref fI))) (tI : PySem.W.typeIn X.K (.ref fI) = some (.type "function"))
    (F1 : FnOk X.prog X.w X.K X.mg X.base CX k fI fd ps sp) (hr : Room (k + 1) X.A) (hb : Binds X.K fd ps ds) (hd : Vals dvs ds) (hx : Passes CX X (fun _ _ _ => False)) (hg : Gl X x) (hm : X.mg x = some (.ref C))
    (hdb : (x == ("__debug__" : Str)) = false := by decide) : PMk X (.Call (.Name x p) [] [] pos) (tMkO C sp dvs tNil) := by
  intro pins s σ H Q I h
  refine wpAny_Call_Name_kw (ld_glob I hg hm ?_ hdb)
  exact PySem.W.callWith_K0 I.kIn T.kC (gmake_x (us := []) T iC tI F1 hr hb hd hx I .nil h.1 h.2)
/-- C(e, ..) as a value that is kept -/
def tMkV (C : Addr) (sp : Sp) (dvs : List V) (ta : TA) : TE := fun σ H Q => ta σ H fun vs H1 => vs.length ≤ 1000 ∧ ∀ a, H1 a = none → sp (.ref a :: (vs ++ dvs)) (upd H1 a (exo a C none)) (fun v H2 => v = .non ∧ Q (.ref a) H2) (fun _ _ _ => False)
theorem gmake_v {H1 : Hp} {us : List Value} {vs : List V} {s1 : Shared} {Q : VK} (T : OexG X.K C) (iC : PySem.W.findIn X.K (.ref C) "__init__" = some (some (.ref fI))) (tI : PySem.W.typeIn X.K (.ref fI) = some (.type "function"))
    (F1 : FnOk X.prog X.w X.K X.mg X.base CX k fI fd ps sp) (hr : Room (k + 1) X.A) (hb : Binds X.K fd ps ds) (hd : Vals dvs ds) (hx : Passes CX X (fun _ _ _ => False)) (I1 : Inv X pins σ H1 s1) (r1 : Vals vs us) (hz : vs.length ≤ 1000)
    (q1 : ∀ a, H1 a = none → sp (.ref a :: (vs ++ dvs)) (upd H1 a (exo a C none)) (fun v H2 => v = .non ∧ Q (.ref a) H2) (fun _ _ _ => False)) :
    wpAny (model X.prog X.w) X.A (call (.ref C) us) (EP X pins σ Q) X.xe s1 := by
  refine gmake T iC tI F1 hr hb hd hx I1 r1 hz (q1 _ (I1.hok.fresh (Nat.le_succ _))) fun s0 s2 u up e0 J z => ?_
  obtain ⟨v, H2, J2, rv, ev, q2⟩ := J.after z
  subst ev
  exact ⟨rv, .ref (s1.heap.objs.size + 1), H2, J2, rfl, q2⟩
theorem pe_gex (T : OexG X.K C) (iC : PySem.W.findIn X.K (.ref C) "__init__" = some (some (.ref fI))) (tI : PySem.W.typeIn X.K (.ref fI) = some (.type "function"))
    (F1 : FnOk X.prog X.w X.K X.mg X.base CX k fI fd ps sp) (hr : Room (k + 1) X.A) (hb : Binds X.K fd ps ds) (hd : Vals dvs ds) (hx : Passes CX X (fun _ _ _ => False)) (hg : Gl X x) (hm : X.mg x = some (.ref C)) (ha : PA X (e :: es) ta)
    (hdb : (x == ("__debug__" : Str)) = false := by decide) (he : starEach (e :: es) X.env = (false, eval e X.env) :: starEach es X.env := by rfl) (hpl : (backTo pos (starEach es X.env)).any (·.1) = false := by rfl) :
    PE X (.Call (.Name x p) (e :: es) [] pos) (tMkV C sp dvs ta) := by
  refine ⟨fun pins s σ H Q I h => ?_⟩
  refine wpAny_Call_Name_kw (ld_glob I hg hm ?_ hdb)
  refine PySem.W.callWith_K (h₀ := X.base) I.ok.mod.kin T.kC (thn (ha.run pos pins s σ H _ I h) fun us s1 z => ?_) he hpl
  obtain ⟨vs, H1, I1, r1, hz, q1⟩ := z
  exact ⟨I1.kIn, gmake_v T iC tI F1 hr hb hd hx I1 r1 hz q1⟩
theorem pe_gex0 (T : OexG X.K C) (iC : PySem.W.findIn X.K (.ref C) "__init__" = some (some (.ref fI))) (tI : PySem.W.typeIn X.K (.ref fI) = some (.type "function"))
    (F1 : FnOk X.prog X.w X.K X.mg X.base CX k fI fd ps sp) (hr : Room (k + 1) X.A) (hb : Binds X.K fd ps ds) (hd : Vals dvs ds) (hx : Passes CX X (fun _ _ _ => False)) (hg : Gl X x) (hm : X.mg x = some (.ref C))
    (hdb : (x == ("__debug__" : Str)) = false := by decide) : PE X (.Call (.Name x p) [] [] pos) (tMkV C sp dvs tNil) := by
  refine ⟨fun pins s σ H Q I h => ?_⟩
  refine wpAny_Call_Name_kw (ld_glob I hg hm ?_ hdb)
  exact PySem.W.callWith_K0 I.kIn T.kC (gmake_v (us := []) T iC tI F1 hr hb hd hx I .nil h.1 h.2)
end
/-! ### C.m(e, ..): a plain def of a class, called by the class's name -/
/-- the class at C tells of its def g under the name m -/
structure CFn (K : PySem.W.Frag) (C : Addr) (m : Str) (g : Addr) : Prop where
  rd : PySem.W.readsIn K C (.type "type") = true
  ga : PySem.W.specialIn K (.ref C) "__getattribute__" = some (some (.builtin "type.__getattribute__"))
  at_ : PySem.W.findCls K (.ref C) (.type "type") m = some (.val (.ref g))
  kp : PySem.W.keepIn K (.ref g) = true
section
variable {X : Cx} {CX : CXT} {k : Nat} {C g : Addr} {fd : FuncData} {ps : List Str} {sp : Sp} {ds : List Value} {dvs : List V} {E : XK} {e : Expr} {es : List Expr} {c m : Str} {p pos apos : Pos} {t : TA} {pl : Sem Bool}
theorem pe_cfn (T : CFn X.K C m g) (F : FnOk X.prog X.w X.K X.mg X.base CX k g fd ps sp) (hr : Room k X.A) (hb : Binds X.K fd ps ds) (hd : Vals dvs ds) (hx : Passes CX X E) (hg : Gl X c) (hm : X.mg c = some (.ref C)) (ha : PA X (e :: es) t)
    (hdb : (c == ("__debug__" : Str)) = false := by decide) (hst : starEach (e :: es) X.env = (false, eval e X.env) :: starEach es X.env := by rfl) (hpl : (backTo pos (starEach es X.env)).any (·.1) = false := by rfl)
    (ht : eval (.Call (.Attribute (.Name c p) m apos) (e :: es) [] pos) X.env = (do
      let ov ← eval (.Name c p) X.env
      standAt apos.atName
      let (f, first) ← holding [ov] (getMethod ov m pl)
      callWith pos f first (backTo pos (starEach (e :: es) X.env)) (backToKw pos (keywordEach [] X.env))) := by rfl) :
    PE X (.Call (.Attribute (.Name c p) m apos) (e :: es) [] pos) (tCall sp dvs E t) := by
  refine ⟨fun pins s σ H Q I h => ?_⟩
  refine PySem.W.methodCall_KW (pl := pl) (ld_glob I hg hm ?_ hdb) ht
  refine PySem.W.method_cls I.kIn T.ga (PySem.W.cls_value I.kIn T.rd T.at_ rfl ?_)
  refine PySem.W.callWith_K (h₀ := X.base) (first := []) I.ok.mod.kin T.kp (thn (ha.run pos pins _ σ H _ (I.tok _) h) fun us s1 z => ?_) hst hpl
  obtain ⟨vs, H1, I1, r, q⟩ := z
  exact ⟨I1.kIn, run_fn F hr hb hd hx I1 r q⟩
end
/-! ### what the __init__s keep -/
/-- a base: self.word = word -/
def spBase (K : PySem.W.Frag) : Sp := fun vs H Q _ => ∃ (a C : Addr) (y : V), vs = [.ref a, y] ∧ OexG K C ∧ PySem.W.findIn K (.ref C) "word" = some none ∧ H a = some (exo a C none) ∧
  ∀ dx, H dx = none → dx ≠ a → Q .non (upd (upd H dx (exd dx [("word", y)])) a (exo a C (some dx)))
/-- a class of refusals: n values, kept under the names that fs tells -/
def spMade (C : Addr) (n : Nat) (fs : List V → List (Str × V)) : Sp := fun vs H Q _ => ∃ (a : Addr) (ws : List V), vs = .ref a :: ws ∧ ws.length = n ∧ H a = some (exo a C none) ∧
  ∀ (dx : Addr) (H2 : Hp), H dx = none → dx ≠ a → (∀ b, b ≠ a → b ≠ dx → H2 b = H b) → H2 a = some (exo a C (some dx)) → H2 dx = some (exd dx (fs ws)) → Q .non H2
/-- all that is wanted of a class of refusals by the def that makes one -/
structure ExcK (P : Program) (w : World) (K : PySem.W.Frag) (mg : Str → Option Value) (base : Heap) (k : Nat) (nm : Str) (C : Addr) (n : Nat) (fs : List V → List (Str × V)) : Prop where
  oex : OexG K C
  mgC : mg nm = some (.ref C)
  init : ∃ (fI : Addr) (fd : FuncData) (ps : List Str), PySem.W.findIn K (.ref C) "__init__" = some (some (.ref fI)) ∧ PySem.W.typeIn K (.ref fI) = some (.type "function") ∧ FnOk P w K mg base CX0 k fI fd ps (spMade C n fs) ∧ Binds K fd ps []
/-- the reading: nm(e, ..), to be raised -/
def tRef (C : Addr) (n : Nat) (fs : List V → List (Str × V)) (ta : TA) : L2.St → Hp → XK → Prop := fun σ H Q => ta σ H fun vs H1 => vs.length = n ∧ vs.length ≤ 1000 ∧ ∀ (d : Addr) (H2 : Hp), H1 d = none → (∀ b, b ≠ d → H1 b ≠ none → H2 b = H1 b) → H2 d = some (.xd (fs vs)) → Q (.ref C) (some d) H2
section
variable {X : Cx} {k : Nat} {nm : Str} {C : Addr} {n : Nat} {fs : List V → List (Str × V)} {p pos : Pos} {e : Expr} {es : List Expr} {ta : TA}
theorem tRef_mk {H1 : Hp} {vs : List V} {Q : XK} (hn : vs.length = n) (h : ∀ (d : Addr) (H2 : Hp), H1 d = none → (∀ b, b ≠ d → H1 b ≠ none → H2 b = H1 b) → H2 d = some (.xd (fs vs)) → Q (.ref C) (some d) H2) (a : Addr) (ha : H1 a = none) :
    spMade C n fs (.ref a :: (vs ++ [])) (upd H1 a (exo a C none))
      (fun v H2 => v = .non ∧ ∃ (d : Addr) (gs : List (Str × V)), H2 a = some (exo a C (some d)) ∧ H2 d = some (exd d gs) ∧ H1 d = none ∧ Q (.ref C) (some d) (upd (del H2 a) d (.xd gs))) (fun _ _ _ => False) := by
  refine ⟨a, vs, by rw [List.append_nil], hn, upd_same, fun dx H2 h1 h2 h3 h4 h5 => ⟨rfl, dx, _, h4, h5, ?_, ?_⟩⟩
  · rw [upd_ne h2] at h1
    exact h1
  · rw [upd_ne h2] at h1
    refine h dx _ h1 (fun b hb hb2 => ?_) upd_same
    have nb : b ≠ a := fun z => hb2 (by rw [z]; exact ha)
    rw [upd_ne hb, del_ne nb, h3 b nb hb, upd_ne nb]
theorem pmk_ref (T : ExcK X.prog X.w X.K X.mg X.base k nm C n fs) (hr : Room (k + 1) X.A) (hg : Gl X nm) (ha : PA X (e :: es) ta)
    (hdb : (nm == ("__debug__" : Str)) = false := by decide) (he : starEach (e :: es) X.env = (false, eval e X.env) :: starEach es X.env := by rfl) (hpl : (backTo pos (starEach es X.env)).any (·.1) = false := by rfl) :
    PMk X (.Call (.Name nm p) (e :: es) [] pos) (tRef C n fs ta) := by
  obtain ⟨fI, fd, ps, i1, i2, i3, i4⟩ := T.init
  intro pins s σ H Q I h
  refine wpAny_Call_Name_kw (ld_glob I hg T.mgC ?_ hdb)
  refine PySem.W.callWith_K (h₀ := X.base) I.ok.mod.kin T.oex.kC (thn (ha.run pos pins s σ H _ I h) fun us s1 z => ?_) he hpl
  obtain ⟨vs, H1, I1, r1, z1, z2, z3⟩ := z
  exact ⟨I1.kIn, gmake_x T.oex i1 i2 i3 hr i4 .nil pass0 I1 r1 z2 (tRef_mk z1 z3)⟩
theorem pmk_ref0 (T : ExcK X.prog X.w X.K X.mg X.base k nm C n fs) (hr : Room (k + 1) X.A) (hg : Gl X nm) (hdb : (nm == ("__debug__" : Str)) = false := by decide) : PMk X (.Call (.Name nm p) [] [] pos) (tRef C n fs tNil) := by
  obtain ⟨fI, fd, ps, i1, i2, i3, i4⟩ := T.init
  intro pins s σ H Q I h
  exact pmk_gex0 T.oex i1 i2 i3 hr i4 .nil pass0 hg T.mgC hdb pins s σ H Q I ⟨h.2.1, fun a ha => tRef_mk h.1 h.2.2 a ha⟩
end
/-! ### except (A, B, ..) as n: any number of classes, any number of clauses -/
section
open PySem.W
variable {M : Model} {K : Frag} {A : Around} {E : Value → Shared → Prop}
theorem exm_walk1 {cls : Value} {h : Heap} {f : Value → PUnit → Sem (ForInStep PUnit)} (hf : ∀ (c : Value) (b : Bool), exmOne K cls c = some b → Looks M h (f c PUnit.unit) (.yield PUnit.unit)) :
    ∀ (cs : List Value) (b : Bool), exmAny K cls cs = some b → Looks M h (forIn cs PUnit.unit f) PUnit.unit := by
  intro cs
  induction cs with
  | nil =>
    intro b _ A Q E s k q
    rw [List.forIn_nil]
    exact wpAny_pure q
  | cons c r ih =>
    intro b hb A Q E s k q
    obtain ⟨b1, d1, e1, e2, _⟩ := exmAny_cons hb
    rw [List.forIn_cons]
    refine wpAny_bind (hf c b1 e1 A _ E s k ?_)
    exact ih d1 e2 A Q E s k q
theorem exm_walk2 {cls : Value} {h : Heap} {f : Value → Option Bool × Unit → Sem (ForInStep (Option Bool × Unit))}
    (hf : ∀ (c : Value) (b : Bool), exmOne K cls c = some b → Looks M h (f c (none, ())) (if b = true then .done (some true, ()) else .yield (none, ()))) :
    ∀ (cs : List Value) (b : Bool), exmAny K cls cs = some b → Looks M h (forIn cs (none, ()) f) (if b = true then some true else none, ()) := by
  intro cs
  induction cs with
  | nil =>
    intro b hb A Q E s k q
    have z : some false = some b := hb
    cases z
    rw [List.forIn_nil]
    exact wpAny_pure q
  | cons c r ih =>
    intro b hb A Q E s k q
    obtain ⟨b1, d1, e1, e2, e3⟩ := exmAny_cons hb
    rw [List.forIn_cons]
    refine wpAny_bind (hf c b1 e1 A _ E s k ?_)
    cases b1 with
    | true =>
      rw [if_pos rfl]
      have z : b = true := e3
      rw [z] at q
      exact wpAny_pure q
    | false =>
      rw [if_neg Bool.false_ne_true]
      have z : b = d1 := e3
      rw [z] at q
      exact ih d1 e2 A Q E s k q
theorem exm_tupN {cs : List Value} {cls : Value} {tp e : Addr} {b : Bool} {h : Heap} (X : K.In h) (LT : Looks M h (typeOf (.ref e)) cls) (hp : h.get? tp = some { cls := .type "tuple", data := .seq cs.toArray }) (hx : exmAny K cls cs = some b) :
    Looks M h (excMatches (.ref e) (.ref tp)) b := by
  intro A Q E s k₀ q
  obtain ⟨hh, g, d, tk, os⟩ := s
  have k : ∀ b o, h.get? b = some o → hh.get? b = some o := k₀
  have isT : Looks M h (isInstance (.ref tp) (.type "tuple")) true := ((Looks.ld hp).andThen .now).andThen (Looks.of_pure isSubtype_tuple_tuple)
  have w1 := exm_walk1 (M := M) (h := h) (K := K) (cls := cls) (f := fun c __s => do
      let __do_lift ← isExcClass c
      if (!__do_lift) = true then do
          rule "try.except-non-exception-class"
          raiseErrorWords "TypeError" "catching classes that do not inherit from BaseException is not allowed"
          pure (ForInStep.yield PUnit.unit)
        else pure (ForInStep.yield PUnit.unit)) (fun c b hc A Q E s k q => wpAny_bind (((exm_cls (M := M) X hc).1.keeps k).here (by rw [if_neg (by decide)]; exact wpAny_pure q))) cs b hx
  have w2 := exm_walk2 (M := M) (h := h) (K := K) (cls := cls) (f := fun c __s => do
      let __do_lift ← isSubtype cls c
      if __do_lift = true then pure (ForInStep.done (some true, ())) else pure (ForInStep.yield (none, ())))
    (fun c b hc A Q E s k q => wpAny_bind (((exm_cls (M := M) X hc).2.keeps k).here (by cases b <;> exact wpAny_pure q))) cs b hx
  unfold excMatches
  refine wpAny_bind ((isT.keeps k).at ?_)
  dsimp only
  rw [if_pos rfl]
  first
    | refine wpAny_bind (wpAny_seqItems (k _ _ hp) rfl ?_)
    | refine wpAny_bind (wpAny_bind (wpAny_seqItems (k _ _ hp) rfl (wpAny_pure ?_)))
  dsimp only [Option.getD_some, Option.getD]
  first
    | refine wpAny_pure (wpAny_bind ((w1.keeps k).at (wpAny_bind ((LT.keeps k).at (wpAny_bind ((w2.keeps k).at ?_))))))
    | refine wpAny_bind (wpAny_pure (wpAny_bind ((w1.keeps k).at (wpAny_bind ((LT.keeps k).at (wpAny_bind ((w2.keeps k).at ?_)))))))
  cases b <;> exact wpAny_pure q
end
theorem flyZ_keeps {B : Heap} {l : List Env} {a : Addr} {Z : Obj → Prop} {h h' : Heap} (fl : HandSPX.FlyingZ B l a Z h) (k : ∀ b o, h.get? b = some o → h'.get? b = some o) : HandSPX.FlyingZ B l a Z h' := by
  obtain ⟨k1, k2, k3, oe, vs, T, oT, ts, he, hz, hd, h1, hnT, hTe, hT, hdT, h3⟩ := fl
  exact ⟨fun b o z => k b o (k1 b o z), k2, k3.of_keeps (fun b o hb _ => ⟨o, k b o hb, rfl⟩), oe, vs, T, oT, ts, k _ _ he, hz, hd, h1, hnT, hTe, k _ _ hT, hdT, h3⟩
/-- the classes that an except clause names -/
inductive NamesL (X : Cx) : List Expr → List Value → Prop
  | nil : NamesL X [] []
  | cons {x : Str} {c : Value} {p : Pos} {es : List Expr} {cs : List Value} : Names X x c → NamesL X es cs → NamesL X (.Name x p :: es) (c :: cs)
inductive TestIs (X : Cx) : Expr → List Value → Prop
  | one {x : Str} {c : Value} {p : Pos} : Names X x c → TestIs X (.Name x p) [c]
  | tup {es : List Expr} {cs : List Value} {k : Nat} {p : Pos} : NamesL X es cs → cs.length ≤ 1000 → TestIs X (.Tuple es k p) cs
section
variable {X : Cx} {a : Addr} {pn : List (Addr × Obj)} {σ : L2.St} {H : Hp} {s : Shared}
theorem name_run {x : Str} {c : Value} {p : Pos} {Q : Value → Shared → Prop} {E : Value → Shared → Prop} (S : Inv (X.suite a pn) [] σ H s) (n : Names X x c) (q : Q c s) : wpAny (model X.prog X.w) (X.A.mark (some (.ref a))) (eval (.Name x p) X.env) Q E s := by
  obtain ⟨hg, hd, hm | ⟨hm, hv, hn⟩⟩ := n
  · exact ld_glob (X := X.suite a pn) S hg hm q hd
  · exact ld_blt (X := X.suite a pn) S hg hm hv q hn hd
theorem names_run {E : Value → Shared → Prop} {pos : Pos} (S : Inv (X.suite a pn) [] σ H s) : ∀ {es : List Expr} {cs : List Value} {Q : List Value → Shared → Prop}, NamesL X es cs → Q cs s → wpAny (model X.prog X.w) (X.A.mark (some (.ref a))) (spliced (backTo pos (starEach es X.env))) Q E s := by
  intro es cs Q n
  induction n generalizing Q with
  | nil => exact fun q => wpAny_items_nil q
  | cons hn _ ih => exact fun q => wpAny_items_cons (name_run S hn (ih (Q := fun vs s2 => Q (_ :: vs) s2) q))
theorem test_run {t : Expr} {cs : List Value} {cls : Value} {b : Bool} {Q : Bool → Shared → Prop} {E : Value → Shared → Prop} (S : Inv (X.suite a pn) [] σ H s) (T : TestIs X t cs) (LT : PySem.W.Looks (model X.prog X.w) s.heap (typeOf (.ref a)) cls) (hx : PySem.W.exmAny X.K cls cs = some b)
    (hq : ∀ h', (∀ q o, s.heap.get? q = some o → h'.get? q = some o) → Q b { s with heap := h' }) :
    wpAny (model X.prog X.w) (X.A.mark (some (.ref a))) (eval t X.env) (fun c s₁ => wpAny (model X.prog X.w) (X.A.mark (some (.ref a))) (excMatches (.ref a) c) Q E s₁) E s := by
  cases T with
  | one n =>
    obtain ⟨b1, d1, e1, e2, e3⟩ := PySem.W.exmAny_cons hx
    have z : some false = some d1 := e2
    cases z
    rw [Bool.or_false] at e3
    subst e3
    exact name_run S n ((PySem.W.exm_one S.kIn LT e1).here (hq s.heap fun _ _ z => z))
  | tup n hl =>
    refine wpAny_Tuple (names_run S n ⟨by rw [sizeLine_eq]; omega, ?_⟩)
    have kp : ∀ q o, s.heap.get? q = some o → (s.heap.push { cls := .type "tuple", data := .seq cs.toArray }).get? q = some o := fun _ _ z => Heap.get?_push_of_some _ z
    exact (exm_tupN (S.kIn.keeps kp) (LT.keeps kp) (Heap.get?_push_size s.heap rfl) hx).here (hq _ kp)
end
/-- what the clauses 'except .. as n' wish of an exception of the body, one behind the other: slot i is n's -/
def wAsN (K : PySem.W.Frag) (i : Nat) (Wout : WX) (D : Ends) : List (List Value × (Addr → Value → Option Addr → TS)) → WX
  | [] => Wout
  | (cs, ts) :: r => fun cls d σ H => ∃ b, PySem.W.exmAny K cls cs = some b ∧
      (b = true → ∀ a, H a = none → ts a cls d { nx := fun σ' H' => D.nx (σ'.set i none) H', rt := D.rt, bk := fun σ' H' => D.bk (σ'.set i none) H', ct := fun σ' H' => D.ct (σ'.set i none) H' } (σ.set i (some (.ref a))) H) ∧
      (b = false → wAsN K i Wout D r cls d σ H)
inductive HdsAs (X : Cx) (n : Str) : List ExceptHandler → List (List Value × (Addr → Value → Option Addr → TS)) → Prop
  | nil : HdsAs X n [] []
  | cons {t : Expr} {cs : List Value} {ts : Addr → Value → Option Addr → TS} {b₀ : Stmt} {suite : List Stmt} {pos' : Pos} {hds : List ExceptHandler} {l : List (List Value × (Addr → Value → Option Addr → TS))} (ht : TestIs X t cs)
      (hsu : ∀ (a : Addr) (oe : Obj) (cls : Value) (d : Option Addr) (pn : List (Addr × Obj)), Zc cls d oe → (∃ vs, oe.data = .fields vs) → PSs (X.suite a ((a, oe) :: pn)) (b₀ :: suite) (ts a cls d)) (r : HdsAs X n hds l) :
      HdsAs X n (.ExceptHandler (some t) (some n) (b₀ :: suite) pos' :: hds) ((cs, ts) :: l)
section
variable {X : Cx} {n : Str} {i : Nat} {body : List Stmt} {h₀ : ExceptHandler} {hds : List ExceptHandler} {l : List (List Value × (Addr → Value → Option Addr → TS))} {pos : Pos} {tb : WX → TS} {Wout : WX}
/-- the clauses are gone through, the exception at a being caught -/
theorem hds_run (hs : X.stack = X.env :: X.outer) (hf : X.env.frame = some X.env.locals) (hN : X.N.Nodup) (hi : X.N[i]? = some n) (hln : X.env.kindOf n = some .local) (tk : Takes X Wout)
    {pins : List (Addr × Obj)} {a : Addr} {B : Heap} {sI : Shared} {σ : L2.St} {H : Hp} {cls : Value} {d : Option Addr} {D : Ends} (J : Inv X pins σ H sI) (nb : ∀ b o, sI.heap.get? b = some o → b ∉ frs X.stack → B.get? b = some o) (na : H a = none) :
    ∀ {hs' : List ExceptHandler} {l' : List (List Value × (Addr → Value → Option Addr → TS))}, HdsAs X n hs' l' → wAsN X.K i Wout D l' cls d σ H → ∀ s' : Shared, HandSPX.FlyingZ B (X.env :: X.outer) a (Zc cls d) s'.heap → sI.heap.UpToSlots s'.heap → s'.os = sI.os → AllBare s'.gens →
      wpAny (model X.prog X.w) X.A (handleBy (.ref a) X.env hs') (SP X pins D) X.xe s' := by
  intro hs' l' hk
  induction hk with
  | nil =>
    intro w s' fl up os ag
    refine wpAny_handleBy_nil ?_
    obtain ⟨_, _, _, oe, vs, T, oT, ts', he, hz, hd, h1, _⟩ := id fl
    unfold PySem.passOn
    refine wpAny_bind (wpAny_field he hd h1 ?_)
    rw [if_neg (show ¬ ((Value.ref T == Value.none) = true) from by simp)]
    have fin : wpAny (model X.prog X.w) X.A (setFlight (.ref a) X.env.frame) (fun _ s4 => wpAny (model X.prog X.w) X.A (throw (.ref a) : Sem Flow) (SP X pins D) X.xe s4) X.xe s' := by
      rw [hf]
      refine HandSPX.setFlight_upZ fl fun h4 hh4 up4 => wpAny_throw (tk _ _ ?_)
      exact ⟨a, B, sI, pins, σ, H, cls, d, rfl, J, nb, up.trans up4, .inr (.inr (by rw [hs]; exact hh4)), na, os, ag, w⟩
    first
      | exact wpAny_bind (wpAny_pure (wpAny_bind fin))
      | exact wpAny_bind fin
  | @cons t cs ts b₀ suite pos' hds2 l2 ht hsu r ih =>
    intro w s' fl up os ag
    obtain ⟨b, hb1, hyes, hno⟩ := w
    have ok := J.ok
    have J3 : Inv X pins σ H s' := J.landed nb fl.1 up os ag
    have out : ∀ {h : Heap} {o : Obj} {vs : Array Value}, h.FunFrames B (X.env :: X.outer) → h.get? a = some o → o.data = .fields vs → a ∉ frs (X.env :: X.outer) := fun {h o vs} ff e dd hm => by
      obtain ⟨_, o', e', hnf⟩ := ff.mem hm
      rw [e] at e'
      cases e'
      exact hnf _ dd
    obtain ⟨oe3, vs3, he3, hz3, hd3⟩ := fl.there
    have nfr := out fl.2.2.1 he3 hd3
    have nL : a ≠ X.env.locals := fun z => nfr (List.mem_filterMap.mpr ⟨X.env, List.mem_cons_self, by rw [hf, z]⟩)
    have nF : a ∉ X.fs := fun hm => by
      obtain ⟨e, he, q⟩ := List.mem_filterMap.mp hm
      exact nfr (List.mem_filterMap.mpr ⟨e, List.mem_cons_of_mem _ he, q⟩)
    have S3 := J3.suite he3 hd3 na nL nF
    have LT : PySem.W.Looks (model X.prog X.w) s'.heap (typeOf (.ref a)) cls := fun A Q E s k q => wpAny_typeOf_ref (k _ _ he3) (by rw [hz3.1]; exact q)
    refine wpAny_handleBy_cons (codeAny_handlers_test ?_) (by intro q; cases q)
    refine test_run S3 ht LT hb1 fun h4 kp => ?_
    have fl4 : HandSPX.FlyingZ B (X.env :: X.outer) a (Zc cls d) h4 := flyZ_keeps fl kp
    have up4 : sI.heap.UpToSlots h4 := up.trans (Heap.UpToSlots.of_keeps kp)
    cases b with
    | false =>
      show wpAny _ X.A (handleBy (.ref a) X.env hds2) _ _ _
      exact ih (hno rfl) { s' with heap := h4 } fl4 up4 os ag
    | true =>
      refine codeAny_handlers_suite_as ?_
      refine HandSPX.lands_againZ (s := { s' with heap := h4 }) fl4 fun h5 fl5 up5 => ?_
      have J5 : Inv X pins σ H { s' with heap := h5 } := J.landed nb fl5.1 (up4.trans up5) os ag
      obtain ⟨oe5, vs5, he5, hz5, hd5⟩ := fl5.there
      have S5 := J5.suite he5 hd5 na nL nF
      refine store_ok (X := X.suite a ((a, oe5) :: (X.pn ++ pins))) (v := .ref a) S5 hN hi (.inl hln) rfl (fun s6 S6 => ?_) (.inr hln)
      refine wpAny_mono ((hsu a oe5 cls d (X.pn ++ pins) hz5 ⟨_, hd5⟩).run [] s6 _ H _ S6 (hyes rfl a na)) (fun f s7 hsp => ?_) (fun _ _ z => False.elim z)
      have goes : ∀ {σ7 : L2.St} {H7 : Hp} {Q : Shared → Prop}, Inv (X.suite a ((a, oe5) :: (X.pn ++ pins))) [] σ7 H7 s7 → (∀ s8, Inv X pins (σ7.set i none) H7 s8 → Q s8) →
          wpAny (model X.prog X.w) X.A (do bindName X.env n .none; unbindBehindTheSuite X.env n pos') (fun _ s8 => Q s8) X.xe s7 := fun {σ7 H7 Q} S7 hq => gone_ok (S7.unsuite ok) hN hi hln hq
      cases f with
      | next =>
        obtain ⟨σ7, H7, S7, q7⟩ := hsp
        exact goes S7 fun s8 J8 => ⟨_, _, J8, q7⟩
      | brk =>
        obtain ⟨σ7, H7, S7, q7⟩ := hsp
        exact goes S7 fun s8 J8 => ⟨_, _, J8, q7⟩
      | cont =>
        obtain ⟨σ7, H7, S7, q7⟩ := hsp
        exact goes S7 fun s8 J8 => ⟨_, _, J8, q7⟩
      | ret u =>
        obtain ⟨v7, σ7, H7, S7, r7, q7⟩ := hsp
        exact goes S7 fun s8 J8 => ⟨_, _, _, J8, r7, q7⟩
theorem ps_try_asN (hs : X.stack = X.env :: X.outer) (hf : X.env.frame = some X.env.locals) (hN : X.N.Nodup) (hi : X.N[i]? = some n) (hln : X.env.kindOf n = some .local) (tk : Takes X Wout)
    (hb : ∀ (W : WX) (pn : List (Addr × Obj)) (xe : Value → Shared → Prop), Takes (X.tr pn xe) W → PassesOwn (model X.prog X.w) X.A X.env xe → PSs (X.tr pn xe) body (tb W))
    (hh : HdsAs X n (h₀ :: hds) l) : PS X (.Try body (h₀ :: hds) [] [] pos) (fun D σ H => tb (wAsN X.K i Wout D l) D σ H) := by
  refine ⟨fun pins s σ H D I h => ?_⟩
  have ok := I.ok
  have hfr : X.A.frames = some (X.env :: X.outer) := by rw [ok.frames, hs]
  refine wpAny_Try_except ?_
  refine wpAny_mono ((hb (wAsN X.K i Wout D l) (X.pn ++ pins) (fun e s₁ => wpAny (model X.prog X.w) X.A (noteFrame e X.env) (fun _ s₂ => wpAny (model X.prog X.w) X.A (setFlight e none) (fun _ s₃ =>
    wpAny (model X.prog X.w) X.A (handleBy e X.env (h₀ :: hds)) (SP X pins D) X.xe s₃) X.xe s₂) X.xe s₁) (fun u s' xx => ?_) PassesOwn.looking).run [] s σ H D (I.toTry _) h) (fun f s1 hsp => ?_) (fun e s1 he => he)
  · obtain ⟨a, B, sI, pins', σ', H', cls, d, rfl, J', nb, up, sky, na, os, ag, w⟩ := xx
    rw [show (X.tr (X.pn ++ pins) _).stack = X.env :: X.outer from hs] at sky
    show wpAny (model X.prog X.w) X.A (noteFrame (.ref a) X.env) _ _ _
    refine Sky.land Zc.steady hfr hf sky fun h3 fl3 up3 => ?_
    exact hds_run hs hf hN hi hln tk (J'.ofTry ok) nb na hh w { s' with heap := h3 } fl3 (up.trans up3) os ag
  · cases f with
    | next =>
      obtain ⟨σ', H', J', q⟩ := hsp
      exact wpAny_execs_nil ⟨σ', H', J'.ofTry ok, q⟩
    | brk =>
      obtain ⟨σ', H', J', q⟩ := hsp
      exact ⟨σ', H', J'.ofTry ok, q⟩
    | cont =>
      obtain ⟨σ', H', J', q⟩ := hsp
      exact ⟨σ', H', J'.ofTry ok, q⟩
    | ret u =>
      obtain ⟨v, σ', H', J', r, q⟩ := hsp
      exact ⟨v, σ', H', J'.ofTry ok, r, q⟩
end
/-! ### the head by facts: Bools over what the top has written -/
theorem funOf {K : PySem.W.Frag} {x qual : Str} {st : Stmt} {f : Addr} {fd : FuncData} (F : FunD K x qual (defArgs st) (defBody st) (defScope st) [] [] f fd) : Fun K x qual st f fd := by
  obtain ⟨oc, od, dV, kV, doc, pm, an, cdv, ct, osl, e, lk, hcd, hd, _⟩ := F.ex
  have hn : dV = .none := by
    rcases hd with ⟨_, z⟩ | ⟨z, _⟩
    · exact z
    · exact absurd rfl z
  subst hn
  exact ⟨⟨oc, od, kV, doc, pm, an, cdv, ct, osl, e, lk, hcd⟩, F.kp⟩
def dOf (a : Str × Option Str) (nm q : Str) (st : Stmt) (dfl : List He.Dv) (kwd : List (Str × He.Dv)) : He.DefD := ⟨a, nm, q, defArgs st, defBody st, defScope st, dfl, kwd⟩
def frN (n : Nat) (k : Nat → Bool) : Bool := match n with
  | 0 => k 0
  | m + 1 => k (m + 1)
theorem frN_eq (n : Nat) (k : Nat → Bool) : frN n k = k n := by
  cases n <;> rfl
def frL : List Addr → (List Addr → Bool) → Bool
  | [], k => k []
  | a :: r, k => frN a fun a => frL r fun r => k (a :: r)
theorem frL_eq : ∀ (l : List Addr) (k : List Addr → Bool), frL l k = k l
  | [], _ => rfl
  | a :: r, k => by
    show frN a (fun a => frL r fun r => k (a :: r)) = _
    rw [frN_eq, frL_eq r]
def isNw (nw : String) : List (Option Value) → Bool
  | [_, _, _, _, some (.builtin z), _] => decide (z = nw)
  | _ => false
theorem isNw_ok {nw : String} {l : List (Option Value)} (h : isNw nw l = true) : ∃ k0 k1 k2 k3 k5 : Option Value, l = [k0, k1, k2, k3, some (.builtin nw), k5] := by
  unfold isNw at h
  split at h
  · have e := of_decide_eq_true h
    subst e
    exact ⟨_, _, _, _, _, rfl⟩
  · cases h
abbrev excT (B : String) : List Value := [.type B, .type "Exception", .type "BaseException", .type "object"]
/-- a class of refusals at C under the class at CB, which stands over the built-in B -/
def oexB (K : PySem.W.Frag) (C CB : Addr) (B nw : String) : Bool := (match K.lookup C with
  | some ⟨.type t, _, .cls cd, sl⟩ => decide (t = "type") && (decide (cd.mro = .ref C :: .ref CB :: excT B) && (cd.hasDict && (!cd.hasDel && isNw nw sl.toList)))
  | _ => false) && (He.eqO (PySem.W.findIn K (.ref C) "__setattr__") (some (some (.builtin "object.__setattr__"))) && (decide (PySem.W.subIn K (.ref C) (.type "BaseException") = some true) && (decide (PySem.W.typeIn K (.ref C) = some (.type "type")) && PySem.W.keepIn K (.ref C))))
theorem oexB_ok {K : PySem.W.Frag} {C CB : Addr} {B nw it : String} (FB : ExcBaseFacts B nw it (excT B)) (S : ∀ self : Value, refuseLoop self "__setattr__" (excT B) = pure ()) (hob : (excT B).contains (.type "object") = true) (h : oexB K C CB B nw = true) : OexG K C := by
  obtain ⟨h1, h⟩ := He.ba h
  obtain ⟨h2, h⟩ := He.ba h
  obtain ⟨h3, h⟩ := He.ba h
  obtain ⟨h4, h5⟩ := He.ba h
  refine ⟨?_, He.eqO_ok h2, of_decide_eq_true h3, of_decide_eq_true h4, h5⟩
  cases q : K.lookup C with
  | none =>
    rw [q] at h1
    cases h1
  | some o =>
    obtain ⟨oc, od, dt, osl⟩ := o
    rw [q] at h1
    cases oc with
    | type t =>
      cases dt with
      | cls cd =>
        obtain ⟨n1, n2, n3, n4, n5, n6, n7, n8, n9, n10, n11⟩ := cd
        obtain ⟨a1, h1⟩ := He.ba h1
        obtain ⟨a2, h1⟩ := He.ba h1
        obtain ⟨a3, h1⟩ := He.ba h1
        obtain ⟨a4, a5⟩ := He.ba h1
        have e1 : t = "type" := of_decide_eq_true a1
        have e2 : n3 = .ref C :: .ref CB :: excT B := of_decide_eq_true a2
        have e3 : n6 = true := a3
        have e4 : n11 = false := by
          cases n11 with
          | false => rfl
          | true => cases a4
        obtain ⟨sl⟩ := osl
        obtain ⟨k0, k1, k2, k3, k5, e5⟩ := isNw_ok a5
        have e6 : sl = [k0, k1, k2, k3, some (.builtin nw), k5] := e5
        subst e1 e2 e3 e4 e6
        exact ⟨_, _, _, _, _, _, _, _, _, _, _, _, _, _, _, B, _, _, _, FB, rfl, fun Y => by rw [List.contains_cons]; rfl, hob, fun self => by rw [refuseLoop_ref, refuseLoop_ref]; exact S self⟩
      | _ => cases h1
    | _ => cases dt <;> cases h1
def cfnB (K : PySem.W.Frag) (C g : Addr) : Bool := PySem.W.readsIn K C (.type "type") && (He.eqO (PySem.W.specialIn K (.ref C) "__getattribute__") (some (some (.builtin "type.__getattribute__"))) && ((match PySem.W.findCls K (.ref C) (.type "type") "__init__" with
  | some (.val (.ref a)) => decide (a = g)
  | _ => false) && PySem.W.keepIn K (.ref g)))
theorem cfnB_ok {K : PySem.W.Frag} {C g : Addr} (h : cfnB K C g = true) : CFn K C "__init__" g := by
  obtain ⟨h1, h⟩ := He.ba h
  obtain ⟨h2, h⟩ := He.ba h
  obtain ⟨h3, h4⟩ := He.ba h
  refine ⟨h1, He.eqO_ok h2, ?_, h4⟩
  split at h3
  · rename_i a e
    have e2 : a = g := of_decide_eq_true h3
    rw [e, e2]
  · cases h3
/-- all that is looked at of the class x, under b, with these fields -/
def leafB (K : PySem.W.Frag) (x b : Str) (B nw : String) (fl : List Str) : Bool := frN (He.ga K x) fun C => frN (He.ga K b) fun CB => oexB K C CB B nw && (cfnB K CB (He.ma K CB "__init__") && (He.eqO (PySem.W.findIn K (.ref C) "__init__") (some (some (.ref (He.ma K C "__init__")))) &&
  (decide (PySem.W.typeIn K (.ref (He.ma K C "__init__")) = some (.type "function")) && (("word" : Str) :: fl).all fun f => He.eqO (PySem.W.findIn K (.ref C) f) (some none))))
structure LeafK (K : PySem.W.Frag) (x b : Str) (fl : List Str) : Prop where
  T : OexG K (He.ga K x)
  B : CFn K (He.ga K b) "__init__" (He.ma K (He.ga K b) "__init__")
  i : PySem.W.findIn K (.ref (He.ga K x)) "__init__" = some (some (.ref (He.ma K (He.ga K x) "__init__")))
  t : PySem.W.typeIn K (.ref (He.ma K (He.ga K x) "__init__")) = some (.type "function")
  n : ∀ f ∈ ("word" : Str) :: fl, PySem.W.findIn K (.ref (He.ga K x)) f = some none
theorem leafB_ok {K : PySem.W.Frag} {x b : Str} {B nw it : String} {fl : List Str} (FB : ExcBaseFacts B nw it (excT B)) (S : ∀ self : Value, refuseLoop self "__setattr__" (excT B) = pure ()) (hob : (excT B).contains (.type "object") = true) (h : leafB K x b B nw fl = true) : LeafK K x b fl := by
  unfold leafB at h
  rw [frN_eq, frN_eq] at h
  obtain ⟨h1, h⟩ := He.ba h
  obtain ⟨h2, h⟩ := He.ba h
  obtain ⟨h3, h⟩ := He.ba h
  obtain ⟨h4, h5⟩ := He.ba h
  exact ⟨oexB_ok FB S hob h1, cfnB_ok h2, He.eqO_ok h3, of_decide_eq_true h4, fun f hf => He.eqO_ok (List.all_eq_true.mp h5 f hf)⟩
theorem leafV {K : PySem.W.Frag} {x b : Str} {fl : List Str} (h : leafB K x b "ValueError" "ValueError.__new__" fl = true) : LeafK K x b fl := leafB_ok F.excBase_ValueError F.store_ValueError.passes (by decide +kernel) h
theorem leafL {K : PySem.W.Frag} {x b : Str} {fl : List Str} (h : leafB K x b "LookupError" "LookupError.__new__" fl = true) : LeafK K x b fl := leafB_ok F.excBase_LookupError F.store_LookupError.passes (by decide +kernel) h
theorem leafR {K : PySem.W.Frag} {x b : Str} {fl : List Str} (h : leafB K x b "RuntimeError" "RuntimeError.__new__" fl = true) : LeafK K x b fl := leafB_ok F.excBase_RuntimeError F.store_RuntimeError.passes (by decide +kernel) h
/-! ### the Hook: what the top's names reach in n steps, and the statics (which readsIn asks for) -/
def wide (g : Addr → Option Obj) (n : Nat) : List Addr := PySem.cStatics :: He.asD g n
theorem tabs_out {g : Addr → Option Obj} {tf : List He.Defn} {as : List Addr} (h : He.tabsB g tf (He.frT g as) = true) (p : He.Defn) (hp : p ∈ tf) :
    PySem.W.codeHdIn (He.frT g as) (He.cT (He.frT g as) p).1 (He.cT (He.frT g as) p).2 = true ∧ (He.frT g as).lookup (He.cT (He.frT g as) p).2 = none ∧ g (He.cT (He.frT g as) p).2 = some { cls := .none, data := .fields #[] } := by
  have z := List.all_eq_true.mp h p hp
  obtain ⟨z1, z2⟩ := He.ba z
  generalize (He.cT (He.frT g as) p).2 = t at z1 z2 ⊢
  cases e : g t with
  | none =>
    rw [e] at z2
    cases z2
  | some u =>
    rw [e] at z2
    exact ⟨z1, He.frT_none e z2, congrArg some (He.emptyTab_eq z2)⟩
def lookS (n : Nat) (fa : List He.Fa) (fn : List He.DefD) (tf : List He.Defn) (ex : PySem.W.Frag → Bool) (g : Addr → Option Obj) : He.AlX :=
  (He.obsT fa fn [] (He.frT g (wide g n)), ex (He.frT g (wide g n)) && He.tabsB g tf (He.frT g (wide g n)))
theorem lookS_says {n : Nat} {fa : List He.Fa} {fn : List He.DefD} {tf : List He.Defn} {ex : PySem.W.Frag → Bool} {w : World} {h : Heap} (e : lookS n fa fn tf ex h.get? = He.valX fn [] w) : He.SaysX fa fn [] tf ex w h (He.frT h.get? (wide h.get? n)) := by
  have a : _ = He.valT fn [] w := congrArg Prod.fst e
  obtain ⟨b, c⟩ := He.ba (show _ = true from congrArg Prod.snd e)
  exact { t := a, more := b, hd := fun p hp => (tabs_out c p hp).1, out := fun p hp => (tabs_out c p hp).2.1, empty := fun p hp => (tabs_out c p hp).2.2 }
def hookS (n : Nat) (fa : List He.Fa) (fn : List He.DefD) (tf : List He.Defn) (ex : PySem.W.Frag → Bool) : PySem.W.Hook :=
  { α := He.AlX, obs := fun s => lookS n fa fn tf ex s.heap.get?, val := He.valX fn [], says := fun w h => ∃ K : PySem.W.Frag, K.In h ∧ He.SaysX fa fn [] tf ex w h K, of := fun w s e => ⟨_, He.frT_in, lookS_says e⟩,
    keeps := fun w h h' y k => by
      obtain ⟨K, i, c⟩ := y
      exact ⟨K, PySem.W.Frag.In.keeps i k, { t := c.t, more := c.more, hd := c.hd, out := c.out, empty := fun p hp => k _ _ (c.empty p hp) }⟩ }
theorem lookS_eq {n : Nat} {fa : List He.Fa} {fn : List He.DefD} {tf : List He.Defn} {ex : PySem.W.Frag → Bool} (s : PySem.W.SharedT) : lookS n fa fn tf ex (HandSHeadRun.getT s) = (hookS n fa fn tf ex).obs s.abs := by
  rw [show HandSHeadRun.getT s = s.abs.heap.get? from funext (HandSHeadRun.getT_eq s)]
  rfl
/-! ### t.index(n), t a tuple of ints -/
section
variable {X : Cx}
theorem mt_tup_indexI : MtR X "tuple.index" (fun x xs H Q => ∃ (p : Addr) (ys : List Int) (n : Int) (j : Nat), x = .ref p ∧ xs = [.int n] ∧ SqT X.K H p (ys.map V.int) ∧ ys[j]? = some n ∧ (∀ m, m < j → ys[m]? ≠ some n) ∧ Q (.int (j : Nat)) H) := by
  intro pins s σ H x xs v us Q I rx rs h
  obtain ⟨p, ys, n, j, ex, exs, hT, hj, hb, q⟩ := h
  subst ex exs
  cases rx
  obtain ⟨un, eu, tu, etu⟩ := vals1 rs
  subst eu etu
  obtain ⟨its, r, ⟨⟨oc, od, odt, osl⟩, hob, hcl, ep, hdt⟩, hz⟩ := I.tuple hT
  simp only at hcl hdt
  subst hcl hdt
  have hs : its.toArray.size = ys.length := by
    rw [List.size_toArray, ← r.length, List.length_map]
  have hlt : j < ys.length := (List.getElem?_eq_some_iff.mp hj).1
  have what : ∀ (m : Nat) (hm : m < its.toArray.size), ∃ (y : Int) (ty : Tok), ys[m]? = some y ∧ its.toArray[m] = Value.int y ty := fun m hm => by
    have hm2 : m < ys.length := hs ▸ hm
    obtain ⟨wv, hw, ty, hty⟩ := r.get (i := m) (x := V.int ys[m]) (by simp [hm2])
    have e1 := (List.getElem?_eq_some_iff.mp hw).2
    exact ⟨ys[m], ty, List.getElem?_eq_getElem hm2, by rw [← hty, ← e1]; simp⟩
  refine call_meets PySem.F.slot_tuple_index ⟨_, hob, rfl⟩ PySem.F.entry_tuple_index (PySem.F.args_tuple_index_2 _ _)
    (TI.tuple_indexAt p its.toArray ep od osl (.int n tu) (eqU (.int n)) j (by rw [hs]; exact hlt) ?_ fun m hm hmj => ?_)
    ⟨hob, fun wv hw => mem_eqAt (x := .int n) ⟨tu, rfl⟩ rfl r (by rw [List.all_map]; exact List.all_eq_true.mpr fun _ _ => rfl) wv (by simpa using hw), ⟨.int (j : Nat), H, I.tok _, ⟨_, rfl⟩, q⟩⟩
  · obtain ⟨y, ty, h1, h2⟩ := what j (by rw [hs]; exact hlt)
    rw [hj] at h1
    obtain rfl := Option.some.inj h1
    rw [h2]
    show decide (n = n) = true
    exact decide_eq_true rfl
  · obtain ⟨y, ty, h1, h2⟩ := what m hm
    rw [h2]
    show decide (y = n) = false
    exact decide_eq_false fun z => hb m hmj (by rw [h1, z])
end
/-! ### tuples that are known to have no dict of their own: written down as they stand -/
def NoD (o : Obj) : Prop := o.cls = .type "tuple" ∧ o.dict = none
def tTupF (t : TA) : TE := fun σ H Q => t σ H fun xs H1 => xs.length ≤ sizeLine ∧ ∀ (p : Addr) (o : Obj), H1 p = none → NoD o → Q (.ref p) (upd H1 p (.frz o (.tup xs)))
def tBMF (r : V → List V → Hp → VK → Prop) (to : TE) (t : TA) : TE := fun σ H Q => to σ H fun x H1 => (∃ (p : Addr) (o : Obj) (ys : List V), x = .ref p ∧ H1 p = some (.frz o (.tup ys)) ∧ NoD o) ∧ t σ H1 fun xs H2 => r x xs H2 Q
section
variable {X : Cx} {e : Expr} {es : List Expr} {t : TA} {pos : Pos}
theorem pe_tupF {x1} (h : PA X es t) : PE X (.Tuple es x1 pos) (tTupF t) := ⟨fun pins s σ H Q I hq => by
  refine wpAny_Tuple_spliced (thn (h.run pos pins s σ H _ I hq) fun us s1 ⟨xs, H1, I1, r, z, q⟩ => ⟨r.length ▸ z, ?_⟩)
  have fresh := I1.hok.fresh (Nat.le_refl s1.heap.objs.size)
  refine ⟨.ref s1.heap.objs.size, _, I1.laid (o := .frz _ (.tup xs)) (t' := s1.toks) (fun b u e => Heap.get?_push_of_some _ e) (Nat.le_refl _) ⟨Heap.get?_push_size _ rfl, z, us, r, _, Heap.get?_push_size _ rfl, rfl, _, rfl⟩, rfl, q _ _ fresh ⟨rfl, rfl⟩⟩⟩
theorem pe_bmF {o : Expr} {to : TE} {name : Str} {apos : Pos} {id : String} {r : V → List V → Hp → VK → Prop} (slot : Slot "tuple" name id) (hty : typeOf (.builtin id) = pure (.type "method_descriptor")) (hm : MtR X id r) (ho : PE X o to) (ha : PA X (e :: es) t)
    (hb : attributeBase o name X.env (eval o X.env) = eval o X.env := by rfl) (hfw : ((backTo pos (starEach (e :: es) X.env)).all (fun x => !x.1) && (backToKw pos (keywordEach [] X.env)).all (fun x => x.1.isSome) && decide ((e :: es).length + ([] : List Keyword).length + (if ([] : List Keyword).isEmpty then 0 else 1) < 30)) = true := by rfl)
    (hln : (apos.endLine == pos.line) = true := by rfl) (hst : starEach (e :: es) X.env = (false, eval e X.env) :: starEach es X.env := by rfl) (hpl : (backTo pos (starEach es X.env)).any (·.1) = false := by rfl) :
    PE X (.Call (.Attribute o name apos) (e :: es) [] pos) (tBMF r to t) := ⟨fun pins s σ H Q I h => by
  refine wpAny_Call_method_late hb hfw hln rfl (thn (ho.run pins s σ H _ I h) fun v s1 ⟨x, H1, I1, r1, ⟨p, ob, ys, ex, hp, hc, hd⟩, q1⟩ => ?_)
  subst ex
  cases r1
  obtain ⟨hob, _⟩ := I1.hok p _ hp
  refine ⟨"tuple", id, PySem.F.plainAttrs_tuple, slot, hty, ⟨ob, hob, hc⟩, fun a ea => ?_, ?_⟩
  · cases ea
    exact ⟨ob, hob, hd⟩
  have run := ha.run pos pins s1 σ H1 _ I1 q1
  rw [hst] at run ⊢
  refine Calls.callWith_builtin ?_ (Calls.evalArgs_plain (thn run fun us s2 ⟨vs, H2, I2, r2, q2⟩ => hm pins s2 σ H2 (.ref p) vs (.ref p) us Q I2 rfl r2 q2))
  show (false || (backTo pos (starEach es X.env)).any (·.1)) = false
  rw [hpl]
  rfl⟩
end
/-! ### _law_pull -/
abbrev sPull : Stmt := topS 53
theorem scPull : FnScope ["_law_bag_here", "_law_size", "_law_got", "_law_cell"] ["_law_bag_here", "_law_size"] (defScope sPull) := ⟨rfl, rfl, rfl, by decide +kernel, rfl, by decide +kernel, by decide +kernel⟩
def spPull : Sp := fun vs H Q _ => ∃ (b c : Addr) (size : Int), vs = [.ref b, .int size] ∧ Bag H b c ∧ 0 < size ∧ size.natAbs < 2 ^ 200 ∧
  ∀ H' r, Off b H H' → Bag H' b c → 0 ≤ r → r < size → Q (.int r) H'
section
variable {P : Program} {w : World} {K : PySem.W.Frag} {mg : Str → Option Value} {base : Heap}
theorem ok_pull {f : Addr} {fd : FuncData} {k : Nat} (F : Fun K "_law_pull" "_law_pull" sPull f fd) (ml : mg "len" = none) : FnOk P w K mg base CX0 (k + 1) f fd ["_law_bag_here", "_law_size"] spPull := by
  refine F.ok scPull (fun vs H Q E h => ?_) (fun cdv A outer s H vs Q E hr h => ?_)
  · obtain ⟨b, c, size, rfl, _⟩ := h
    rfl
  · obtain ⟨b, c, size, rfl, ⟨cells, at', rest, seed, hb, hc, ha, hr0, hs0, hs1, hcb⟩, hz, hzb, q⟩ := h
    refine ⟨_, pss_cons (ps_if (pt_cmpR op_ge (pe_ix ix_list (pv 0) pe_int (fun _ _ => rfl)) (pv 1) (nomark _))
        (pss_cons (ps_set (i := 2) scPull.nd rfl (.inl rfl) (pe_op op_mod (pe_ix ix_list (pv 0) pe_int (fun _ _ => rfl)) (pv 1)))
        (pss_cons (ps_asg (pe_op op_fdivW (pe_ix ix_list (pv 0) pe_int (fun _ _ => rfl)) (pv 1)) (pg_sub (pv 0) pe_int set_list))
        (pss_one (ps_ret (pv 2))))) pss_nil)
      (pss_cons (ps_set (i := 3) scPull.nd rfl (.inl rfl) pe_int)
      (pss_cons (ps_if (pt_cmpR op_lt (pe_ix ix_list (pv 0) pe_int (fun _ _ => rfl)) (pe_callB call_len_seq (by rfl) ml PySem.boot_len (pa_cons (pe_ix ix_list (pv 0) pe_int (fun _ _ => rfl)) pa_nil)) (nomark _))
        (pss_one (ps_set (i := 3) scPull.nd rfl (.inl rfl) (pe_ix ix_list (pe_ix ix_list (pv 0) pe_int (fun _ _ => rfl)) (pe_ix ix_list (pv 0) pe_int (fun _ _ => rfl)) (fun _ _ => rfl)))) pss_nil)
      (pss_cons (ps_asg (pe_op op_add (pe_ix ix_list (pv 0) pe_int (fun _ _ => rfl)) pe_int) (pg_sub (pv 0) pe_int set_list))
      (pss_cons (ps_if (pt_cmpR op_ge (pv 3) (pe_op op_pow pe_int pe_int) (nomark _))
        (pss_cons (ps_asg (pe_op op_fdivW (pv 3) (pv 1)) (pg_sub (pv 0) pe_int set_list))
        (pss_one (ps_ret (pe_op op_mod (pv 3) (pv 1))))) pss_nil)
      (pss_cons (ps_asg (pe_op op_mod (pe_op op_add (pe_op op_add (pe_op op_add (pe_op op_pow (pe_ix ix_list (pv 0) pe_int (fun _ _ => rfl)) pe_int) (pe_op op_mul pe_int (pe_ix ix_list (pv 0) pe_int (fun _ _ => rfl)))) (pe_op op_mod (pv 3) pe_int)) pe_int) pe_int) (pg_sub (pv 0) pe_int set_list))
      (pss_one (ps_ret (pe_op op_mod (pe_op op_add (pe_op op_fdivW (pe_ix ix_list (pv 0) pe_int (fun _ _ => rfl)) pe_int) (pv 3)) (pv 1))))))))), ?_⟩
    have hd : CDivW rest size := wide_div (b := 200) hz hzb (by decide) (by decide)
    -- if bag[2] >= size
    refine ⟨.ref b, rfl, b, _, 2, .int rest, rfl, rfl, .inl (.inl hb), atI_nat (j := 2) rfl, .int size, rfl, _, _, rfl, rfl, _, rfl, ite2 (fun e => ?_) (fun e => ?_)⟩
    · refine ⟨.ref b, rfl, b, _, 2, .int rest, rfl, rfl, .inl (.inl hb), atI_nat (j := 2) rfl, .int size, rfl, _, _, rfl, rfl, hz, ?_⟩
      refine ⟨.ref b, rfl, b, _, 2, .int rest, rfl, rfl, .inl (.inl hb), atI_nat (j := 2) rfl, .int size, rfl, _, _, rfl, rfl, hd, ?_⟩
      refine ⟨.ref b, rfl, b, _, 2, 2, rfl, rfl, hb, rfl, ?_⟩
      refine ⟨.int (rest % size), rfl, q _ _ Off.upd ⟨cells, at', rest / size, seed, upd_same, ?_, ha, Int.ediv_nonneg hr0 (by omega), hs0, hs1, hcb⟩ (Int.emod_nonneg _ (by omega)) (Int.emod_lt_of_pos _ hz)⟩
      rw [upd_ne hcb]
      exact hc
    · -- cell = 0; if bag[1] < len(bag[0])
      obtain ⟨j, rfl⟩ := Int.eq_ofNat_of_zero_le ha
      refine ⟨.ref b, rfl, b, _, 1, .int (j : Nat), rfl, rfl, .inl (.inl hb), atI_nat (j := 1) rfl, .ref b, rfl, b, _, 0, .ref c, rfl, rfl, .inl (.inl hb), atI_nat (j := 0) rfl, c, _, rfl, .inl (.inl (.inl hc)), _, _, rfl, rfl, _, rfl, ite2 (fun e2 => ?_) (fun e2 => ?_)⟩
      · have hl := of_decide_eq_true e2
        rw [List.length_map] at hl
        have hj : j < cells.length := by omega
        refine ⟨.ref b, rfl, b, _, 0, .ref c, rfl, rfl, .inl (.inl hb), atI_nat (j := 0) rfl, .ref b, rfl, b, _, 1, .int (j : Nat), rfl, rfl, .inl (.inl hb), atI_nat (j := 1) rfl, c, _, _, .int cells[j], rfl, rfl, .inl (.inl hc), atI_nat (j := j) (by rw [List.getElem?_map, List.getElem?_eq_getElem hj]; rfl), ?_⟩
        obtain ⟨cell, hcell⟩ : ∃ cell : Int, cell = cells[j] := ⟨_, rfl⟩
        rw [← hcell]
        -- bag[1] = bag[1] + 1
        refine ⟨.ref b, rfl, b, _, 1, .int (j : Nat), rfl, rfl, .inl (.inl hb), atI_nat (j := 1) rfl, _, _, rfl, rfl, ?_⟩
        refine ⟨.ref b, rfl, b, _, 1, 1, rfl, rfl, hb, rfl, ?_⟩
        have hb1 : (upd H b (.lst [.ref c, .int ((j : Int) + 1), .int rest, .int seed])) b = some (.lst [.ref c, .int ((j : Int) + 1), .int rest, .int seed]) := upd_same
        have hc1 : (upd H b (.lst [.ref c, .int ((j : Int) + 1), .int rest, .int seed])) c = some (.lst (cells.map V.int)) := by
          rw [upd_ne hcb]
          exact hc
        -- if cell >= 10 ** 18
        refine ⟨.int cell, rfl, 10, 18, rfl, rfl, ⟨by decide, by decide, by decide⟩, _, _, rfl, rfl, _, rfl, ite2 (fun e3 => ?_) (fun e3 => ?_)⟩
        · have h18 : (10 : Int) ^ (18 : Int).toNat ≤ cell := of_decide_eq_true e3
          have h0 : (0 : Int) ≤ 10 ^ (18 : Int).toNat := by decide
          refine ⟨.int cell, rfl, .int size, rfl, _, _, rfl, rfl, wide_div (b := 200) hz hzb (by decide) (by decide), ?_⟩
          refine ⟨.ref b, rfl, b, _, 2, 2, rfl, rfl, hb1, rfl, ?_⟩
          refine ⟨.int cell, rfl, .int size, rfl, _, _, rfl, rfl, hz, ?_⟩
          refine q _ _ (Off.upd.trans Off.upd) ⟨cells, (j : Int) + 1, cell / size, seed, upd_same, ?_, by omega, Int.ediv_nonneg (by omega) (by omega), hs0, hs1, hcb⟩ (Int.emod_nonneg _ (by omega)) (Int.emod_lt_of_pos _ hz)
          rw [upd_ne hcb]
          exact hc1
        · -- bag[3] = (bag[3] ** 5 + 69069 * bag[1] + cell % 1000003 + 7) % 2147483629
          have hp : CPow seed 5 := ⟨by decide, by decide, by omega⟩
          refine ⟨.ref b, rfl, b, _, 3, .int seed, rfl, rfl, .inl (.inl hb1), atI_nat (j := 3) rfl, _, _, rfl, rfl, hp, ?_⟩
          refine ⟨.ref b, rfl, b, _, 1, .int ((j : Int) + 1), rfl, rfl, .inl (.inl hb1), atI_nat (j := 1) rfl, _, _, rfl, rfl, .inl ⟨by decide, by decide⟩, _, _, rfl, rfl, ?_⟩
          refine ⟨.int cell, rfl, _, _, rfl, rfl, (show (0 : Int) < 1000003 by decide), _, _, rfl, rfl, _, _, rfl, rfl, _, _, rfl, rfl, (show (0 : Int) < 2147483629 by decide), ?_⟩
          refine ⟨.ref b, rfl, b, _, 3, 3, rfl, rfl, hb1, rfl, ?_⟩
          refine ⟨.ref b, rfl, b, _, 3, _, rfl, rfl, .inl (.inl upd_same), atI_nat (j := 3) rfl, _, _, rfl, rfl, wide_div (b := 200) (by decide) (by decide) (by decide) (by decide), .int cell, rfl, _, _, rfl, rfl, .int size, rfl, _, _, rfl, rfl, hz, ?_⟩
          refine q _ _ (Off.upd.trans Off.upd) ⟨cells, (j : Int) + 1, rest, _, upd_same, ?_, by omega, hr0, Int.emod_nonneg _ (by decide), Int.lt_trans (Int.emod_lt_of_pos _ (by decide)) (by decide), hcb⟩ (Int.emod_nonneg _ (by omega)) (Int.emod_lt_of_pos _ hz)
          rw [upd_ne hcb]
          exact hc1
      · obtain ⟨cell, hcell⟩ : ∃ cell : Int, cell = 0 := ⟨_, rfl⟩
        rw [show (V.int 0) = V.int cell by rw [hcell]]
        -- bag[1] = bag[1] + 1
        refine ⟨.ref b, rfl, b, _, 1, .int (j : Nat), rfl, rfl, .inl (.inl hb), atI_nat (j := 1) rfl, _, _, rfl, rfl, ?_⟩
        refine ⟨.ref b, rfl, b, _, 1, 1, rfl, rfl, hb, rfl, ?_⟩
        have hb1 : (upd H b (.lst [.ref c, .int ((j : Int) + 1), .int rest, .int seed])) b = some (.lst [.ref c, .int ((j : Int) + 1), .int rest, .int seed]) := upd_same
        have hc1 : (upd H b (.lst [.ref c, .int ((j : Int) + 1), .int rest, .int seed])) c = some (.lst (cells.map V.int)) := by
          rw [upd_ne hcb]
          exact hc
        -- if cell >= 10 ** 18
        refine ⟨.int cell, rfl, 10, 18, rfl, rfl, ⟨by decide, by decide, by decide⟩, _, _, rfl, rfl, _, rfl, ite2 (fun e3 => ?_) (fun e3 => ?_)⟩
        · have h18 : (10 : Int) ^ (18 : Int).toNat ≤ cell := of_decide_eq_true e3
          have h0 : (0 : Int) ≤ 10 ^ (18 : Int).toNat := by decide
          refine ⟨.int cell, rfl, .int size, rfl, _, _, rfl, rfl, wide_div (b := 200) hz hzb (by decide) (by decide), ?_⟩
          refine ⟨.ref b, rfl, b, _, 2, 2, rfl, rfl, hb1, rfl, ?_⟩
          refine ⟨.int cell, rfl, .int size, rfl, _, _, rfl, rfl, hz, ?_⟩
          refine q _ _ (Off.upd.trans Off.upd) ⟨cells, (j : Int) + 1, cell / size, seed, upd_same, ?_, by omega, Int.ediv_nonneg (by omega) (by omega), hs0, hs1, hcb⟩ (Int.emod_nonneg _ (by omega)) (Int.emod_lt_of_pos _ hz)
          rw [upd_ne hcb]
          exact hc1
        · -- bag[3] = (bag[3] ** 5 + 69069 * bag[1] + cell % 1000003 + 7) % 2147483629
          have hp : CPow seed 5 := ⟨by decide, by decide, by omega⟩
          refine ⟨.ref b, rfl, b, _, 3, .int seed, rfl, rfl, .inl (.inl hb1), atI_nat (j := 3) rfl, _, _, rfl, rfl, hp, ?_⟩
          refine ⟨.ref b, rfl, b, _, 1, .int ((j : Int) + 1), rfl, rfl, .inl (.inl hb1), atI_nat (j := 1) rfl, _, _, rfl, rfl, .inl ⟨by decide, by decide⟩, _, _, rfl, rfl, ?_⟩
          refine ⟨.int cell, rfl, _, _, rfl, rfl, (show (0 : Int) < 1000003 by decide), _, _, rfl, rfl, _, _, rfl, rfl, _, _, rfl, rfl, (show (0 : Int) < 2147483629 by decide), ?_⟩
          refine ⟨.ref b, rfl, b, _, 3, 3, rfl, rfl, hb1, rfl, ?_⟩
          refine ⟨.ref b, rfl, b, _, 3, _, rfl, rfl, .inl (.inl upd_same), atI_nat (j := 3) rfl, _, _, rfl, rfl, wide_div (b := 200) (by decide) (by decide) (by decide) (by decide), .int cell, rfl, _, _, rfl, rfl, .int size, rfl, _, _, rfl, rfl, hz, ?_⟩
          refine q _ _ (Off.upd.trans Off.upd) ⟨cells, (j : Int) + 1, rest, _, upd_same, ?_, by omega, hr0, Int.emod_nonneg _ (by decide), Int.lt_trans (Int.emod_lt_of_pos _ (by decide)) (by decide), hcb⟩ (Int.emod_nonneg _ (by omega)) (Int.emod_lt_of_pos _ hz)
          rw [upd_ne hcb]
          exact hc1
end
/-! ### _law_bag -/
abbrev sBag : Stmt := topS 52
theorem scBag : FnScope ["_law_script"] ["_law_script"] (defScope sBag) := ⟨rfl, rfl, rfl, by decide +kernel, rfl, by decide +kernel, by decide +kernel⟩
def spBag (K : PySem.W.Frag) : Sp := fun vs H Q _ => ∃ (a : Addr) (ns : List Int), vs = [.ref a] ∧ SqL K H a (ns.map V.int) ∧ ns.length ≤ 63 ∧
  ∀ H' b c, Same H H' → Bag H' b c → H b = none → Q (.ref b) H'
theorem cut_map (ns : List Int) (lo hi : Option Int) : ∃ ms : List Int, cutV (ns.map V.int) lo hi = ms.map V.int ∧ ms.length ≤ ns.length := by
  unfold cutV
  refine ⟨(ns.drop (HT.sIx (ns.map V.int).length 0 lo)).take (HT.sIx (ns.map V.int).length (ns.map V.int).length hi - HT.sIx (ns.map V.int).length 0 lo), ?_, ?_⟩
  · rw [List.map_take, List.map_drop]
  · rw [List.length_take, List.length_drop]
    omega
section
variable {P : Program} {w : World} {K : PySem.W.Frag} {mg : Str → Option Value} {base : Heap}
theorem ok_bag {f : Addr} {fd : FuncData} {k : Nat} (F : Fun K "_law_bag" "_law_bag" sBag f fd) (ml : mg "len" = none) (mli : mg "list" = none) : FnOk P w K mg base CX0 (k + 1) f fd ["_law_script"] (spBag K) := by
  refine F.ok scBag (fun vs H Q E h => ?_) (fun cdv A outer s H vs Q E hr h => ?_)
  · obtain ⟨a, ns, rfl, _⟩ := h
    rfl
  · obtain ⟨a, ns, rfl, hS, hlen, q⟩ := h
    refine ⟨_, pss_one (ps_ret (pe_lst (pa_cons (pe_callTy call_list_of (by rfl) mli (by decide +kernel) (pa_cons (pe_slice sl_list (pv 0) po_none (po_some pe_int)) pa_nil))
      (pa_cons pe_int (pa_cons pe_int (pa_cons (pe_op op_add pe_int (pe_callB call_len_seq (by rfl) ml PySem.boot_len (pa_cons (pe_slice sl_list (pv 0) po_none (po_some pe_int)) pa_nil))) pa_nil)))))), ?_⟩
    obtain ⟨ms, em, lm⟩ := cut_map ns none (some 63)
    refine ⟨.ref a, rfl, 63, rfl, a, _, rfl, hS, fun p np => ?_⟩
    rw [em]
    refine ⟨p, _, rfl, .inl (.inl (.inl upd_same)), fun l nl => ?_⟩
    have s1 : Same H (upd H p (.lst (ms.map V.int))) := same_upd np
    have s2 : Same (upd H p (.lst (ms.map V.int))) (upd (upd H p (.lst (ms.map V.int))) l (.lst (ms.map V.int))) := same_upd nl
    refine ⟨.ref a, rfl, 63, rfl, a, _, rfl, (s1.trans s2).seq hS, fun p2 np2 => ?_⟩
    rw [em]
    have s3 := same_upd (o := .lst (ms.map V.int)) np2
    refine ⟨p2, _, rfl, .inl (.inl (.inl upd_same)), _, _, rfl, rfl, (show (4 : Nat) ≤ sizeLine by decide), fun b nb => ?_⟩
    have s4 := same_upd (o := .lst [.ref l, .int 0, .int 0, .int (9463 + ((ms.map V.int).length : Nat))]) nb
    have hl : (upd (upd (upd (upd H p (.lst (ms.map V.int))) l (.lst (ms.map V.int))) p2 (.lst (ms.map V.int))) b (.lst [.ref l, .int 0, .int 0, .int (9463 + ((ms.map V.int).length : Nat))])) l = some (.lst (ms.map V.int)) := s4 _ _ (s3 _ _ upd_same)
    refine q _ b l (((s1.trans s2).trans s3).trans s4) ⟨ms, 0, 0, _, upd_same, hl, by decide, by decide, ?_, ?_, ?_⟩ (((s1.trans s2).trans s3).free nb)
    · omega
    · rw [List.length_map]
      omega
    · exact ne_of_none (s3 _ _ (upd_same (H := upd H p (.lst (ms.map V.int))) (a := l) (o := .lst (ms.map V.int)))) nb
end
/-! ### _law_of -/
abbrev sOf : Stmt := topS 54
theorem scOf : FnScope ["_law_bag_here", "_law_things"] ["_law_bag_here", "_law_things"] (defScope sOf) := ⟨rfl, rfl, rfl, by decide +kernel, rfl, by decide +kernel, by decide +kernel⟩
def spOf : Sp := fun vs H Q _ => ∃ (b c t : Addr) (xs : List V), vs = [.ref b, .ref t] ∧ Bag H b c ∧ H t = some (.lst xs) ∧ t ≠ b ∧ 0 < xs.length ∧ xs.length ≤ 1000 ∧
  ∀ H' v, Off b H H' → Bag H' b c → v ∈ xs → Q v H'
section
variable {P : Program} {w : World} {K : PySem.W.Frag} {mg : Str → Option Value} {base : Heap}
theorem ok_of {f fP : Addr} {fd fdP : FuncData} {k : Nat} (F : Fun K "_law_of" "_law_of" sOf f fd) (ml : mg "len" = none)
    (FP : Fun K "_law_pull" "_law_pull" sPull fP fdP) (bP : Binds K fdP ["_law_bag_here", "_law_size"] []) (gP : mg "_law_pull" = some (.ref fP)) : FnOk P w K mg base CX0 (k + 2) f fd ["_law_bag_here", "_law_things"] spOf := by
  have GP : FnOk P w K mg base CX0 (k + 1) fP fdP ["_law_bag_here", "_law_size"] spPull := ok_pull FP ml
  refine F.ok scOf (fun vs H Q E h => ?_) (fun cdv A outer s H vs Q E hr h => ?_)
  · obtain ⟨b, c, t, xs, rfl, _⟩ := h
    rfl
  · obtain ⟨b, c, t, xs, rfl, hB, hT, htb, h0, h1, q⟩ := h
    refine ⟨_, pss_one (ps_ret (pe_ix ix_list (pv 1) (pe_call GP hr (by rfl) gP FP.kp bP .nil pass0 (pa_cons (pv 0) (pa_cons (pe_callB call_len_seq (by rfl) ml PySem.boot_len (pa_cons (pv 1) pa_nil)) pa_nil))) (fun _ _ => rfl))), ?_⟩
    refine ⟨.ref t, rfl, .ref b, rfl, .ref t, rfl, t, xs, rfl, .inl (.inl (.inl hT)), b, c, _, rfl, hB, by omega, ?_, fun H' r off bag hr0 hr1 => ?_⟩
    · rw [Int.natAbs_natCast]
      exact Nat.lt_of_le_of_lt h1 (by decide)
    · obtain ⟨n, rfl⟩ := Int.eq_ofNat_of_zero_le hr0
      have hn : n < xs.length := by omega
      refine ⟨t, xs, _, xs[n], rfl, rfl, .inl (.inl (off _ _ htb hT)), atI_nat (List.getElem?_eq_getElem hn), ?_⟩
      exact q _ _ off bag (List.getElem_mem hn)
end
/-! ### _law_like -/
theorem Same.tup {K : PySem.W.Frag} {H H' : Hp} {a : Addr} {xs : List V} (e : Same H H') (h : SqT K H a xs) : SqT K H' a xs := by
  rcases h with (h | ⟨o, h⟩) | h
  · exact .inl (.inl (e _ _ h))
  · exact .inl (.inr ⟨o, e _ _ h⟩)
  · exact .inr h
theorem tyL {K : PySem.W.Frag} {H : Hp} {a : Addr} {xs : List V} (h : SqL K H a xs) : TyX K H (.ref a) (.type "list") := by
  rcases h with (h | ⟨o, h⟩) | ⟨o, its, n, h1, h2, h3⟩
  · exact .base (.lst h)
  · exact .base (.frz h)
  · exact .kList h1 h2
theorem tyT {K : PySem.W.Frag} {H : Hp} {a : Addr} {xs : List V} (h : SqT K H a xs) : TyX K H (.ref a) (.type "tuple") := by
  rcases h with (h | ⟨o, h⟩) | ⟨o, its, n, h1, h2, h3⟩
  · exact .base (.tup h)
  · exact .fTuple h
  · exact .kTuple h1 h2
theorem ix_any {K : PySem.W.Frag} {H : Hp} {a : Addr} {xs : List V} {i : Nat} {v : V} {Q : VK} (h : SqL K H a xs ∨ SqT K H a xs) (e : xs[i]? = some v) (q : Q v H) : rIx K (.ref a) (.int (i : Nat)) H Q := by
  rcases h with h | h
  · exact .inl ⟨a, xs, _, v, rfl, rfl, h, atI_nat e, q⟩
  · exact .inr (.inl ⟨a, xs, _, v, rfl, rfl, h, atI_nat e, q⟩)
/-- what was there before a new object was made stays, though that object changes -/
theorem Same.offUpd {H H' : Hp} {D : Addr} {o : HO} (e : Same H H') (n : H D = none) : Same H (upd H' D o) := fun b x h => by
  rw [upd_ne (ne_of_none h n)]
  exact e b x h
theorem yesT {σ : L2.St} {H : Hp} {A B : Hp → Prop} (h : A H) : tYes σ H (fun b H3 => if b = true then A H3 else B H3) := h
/-- the same data, of a depth below n -/
def Lk (K : PySem.W.Frag) (H : Hp) : Nat → V → V → Prop
  | 0, _, _ => False
  | n + 1, v, u => (v = u ∧ (v = .non ∨ (∃ b, v = .bl b) ∨ (∃ i, v = .int i) ∨ ∃ z, v = .str z)) ∨
    ∃ a b xs ys, v = .ref a ∧ u = .ref b ∧ ((SqL K H a xs ∧ SqL K H b ys) ∨ (SqT K H a xs ∧ SqT K H b ys)) ∧ xs.length = ys.length ∧ xs.length ≤ 1000 ∧ ∀ (i : Nat) (x y : V), xs[i]? = some x → ys[i]? = some y → Lk K H n x y
theorem Lk.same {K : PySem.W.Frag} {H H' : Hp} (e : Same H H') : ∀ (n : Nat) (v u : V), Lk K H n v u → Lk K H' n v u
  | 0, _, _, h => h
  | n + 1, v, u, h => by
    rcases h with h | ⟨a, b, xs, ys, e1, e2, h3, h4, h5, h6⟩
    · exact .inl h
    · refine .inr ⟨a, b, xs, ys, e1, e2, ?_, h4, h5, fun i x y p q => Lk.same e n x y (h6 i x y p q)⟩
      rcases h3 with ⟨p, q⟩ | ⟨p, q⟩
      · exact .inl ⟨e.seq p, e.seq q⟩
      · exact .inr ⟨Same.tup e p, Same.tup e q⟩
abbrev sLike : Stmt := topS 59
theorem scLike : FnScope ["_law_one", "_law_due", "_law_at"] ["_law_one", "_law_due"] (defScope sLike) := ⟨rfl, rfl, rfl, by decide +kernel, rfl, by decide +kernel, by decide +kernel⟩
def spLike (K : PySem.W.Frag) (n : Nat) : Sp := fun vs H Q _ => ∃ v u, vs = [v, u] ∧ Lk K H n v u ∧ ∀ H', Same H H' → Q (.bl true) H'
structure LkG (mg : Str → Option Value) : Prop where
  isi : mg "isinstance" = none
  tup : mg "tuple" = none
  lst : mg "list" = none
  len : mg "len" = none
  all : mg "all" = none
  rng : mg "range" = none
  bool : mg "bool" = none
  int : mg "int" = none
  str : mg "str" = none
section
variable {P : Program} {w : World} {K : PySem.W.Frag} {mg : Str → Option Value} {base : Heap}
theorem like_step {f : Addr} {fd : FuncData} {n : Nat} (F : Fun K "_law_like" "_law_like" sLike f fd) (b : Binds K fd ["_law_one", "_law_due"] []) (g : mg "_law_like" = some (.ref f)) (M : LkG mg)
    (G : FnOk P w K mg base CX0 n f fd ["_law_one", "_law_due"] (spLike K n)) : FnOk P w K mg base CX0 (n + 1) f fd ["_law_one", "_law_due"] (spLike K (n + 1)) := by
  refine F.ok scLike (fun vs H Q E h => ?_) (fun cdv A outer s H vs Q E hr h => ?_)
  · obtain ⟨v, u, rfl, _⟩ := h
    rfl
  · obtain ⟨v, u, rfl, hL, q⟩ := h
    refine ⟨_, pss_cons (ps_if (pt_val (pe_callB call_isiT (by rfl) M.isi (by decide +kernel) (pa_cons (pv 1) (pa_cons (pe_tup (pa_cons (pe_bltn (v := .ty "tuple") (by rfl) M.tup (by decide +kernel) rfl) (pa_cons (pe_bltn (v := .ty "list") (by rfl) M.lst (by decide +kernel) rfl) pa_nil))) pa_nil))))
        (pss_cons (ps_if (pt_cmpR op_ne (pe_callB call_isi (by rfl) M.isi (by decide +kernel) (pa_cons (pv 0) (pa_cons (pe_bltn (v := .ty "tuple") (by rfl) M.tup (by decide +kernel) rfl) pa_nil))) (pe_callB call_isi (by rfl) M.isi (by decide +kernel) (pa_cons (pv 1) (pa_cons (pe_bltn (v := .ty "tuple") (by rfl) M.tup (by decide +kernel) rfl) pa_nil))) (nomark _))
          (pss_one (ps_ret pe_bl)) pss_nil)
        (pss_cons (ps_if (PW.pt (pw_or (pt_not (pt_val (pe_callB call_isiT (by rfl) M.isi (by decide +kernel) (pa_cons (pv 0) (pa_cons (pe_tup (pa_cons (pe_bltn (v := .ty "tuple") (by rfl) M.tup (by decide +kernel) rfl) (pa_cons (pe_bltn (v := .ty "list") (by rfl) M.lst (by decide +kernel) rfl) pa_nil))) pa_nil)))))
            (pw_or1 (pt_cmpR op_ne (pe_callB call_len_seq (by rfl) M.len PySem.boot_len (pa_cons (pv 0) pa_nil)) (pe_callB call_len_seq (by rfl) M.len PySem.boot_len (pa_cons (pv 1) pa_nil)) (nomark _)))))
          (pss_one (ps_ret pe_bl)) pss_nil)
        (pss_one (ps_ret (pe_callB (cr_all rfl) (by rfl) M.all (by decide +kernel) (pa_cons (pe_lc (own := [("_law_at", 2)]) (g := gName 2) (tt := tYes) rfl scLike.nd (pi_range1 (by rfl) M.rng (pa_cons (pe_callB call_len_seq (by rfl) M.len PySem.boot_len (pa_cons (pv 1) pa_nil)) pa_nil))
            (blkOk_by (own := [("_law_at", 2)]) (N := ["_law_one", "_law_due", "_law_at"]) (sc := defScope sLike) (by decide +kernel)) (fun _ _ _ _ _ => pg_name (i := 2) scLike.nd rfl (Or.inl rfl)) (fun _ _ _ _ _ => pts_nil)
            (fun _ _ _ _ _ => pe_call G hr (by rfl) g F.kp b .nil pass0 (pa_cons (pe_ix (r := rIx K) ix_seq (pv 0) (pv 2) (fun _ _ => rfl)) (pa_cons (pe_ix (r := rIx K) ix_seq (pv 1) (pv 2) (fun _ _ => rfl)) pa_nil)))) pa_nil)))))) pss_nil)
      (pss_cons (ps_if (pt_val (pe_callB call_isi (by rfl) M.isi (by decide +kernel) (pa_cons (pv 1) (pa_cons (pe_bltn (v := .ty "bool") (by rfl) M.bool (by decide +kernel) rfl) pa_nil))))
        (pss_one (ps_ret (pe_and (pe_callB call_isi (by rfl) M.isi (by decide +kernel) (pa_cons (pv 0) (pa_cons (pe_bltn (v := .ty "bool") (by rfl) M.bool (by decide +kernel) rfl) pa_nil))) (pe_one (pe_cmpR op_eq (pv 0) (pv 1) (nomark _)))))) pss_nil)
      (pss_cons (ps_if (pt_val (pe_callB call_isi (by rfl) M.isi (by decide +kernel) (pa_cons (pv 1) (pa_cons (pe_bltn (v := .ty "int") (by rfl) M.int (by decide +kernel) rfl) pa_nil))))
        (pss_one (ps_ret (pe_and (pe_callB call_isi (by rfl) M.isi (by decide +kernel) (pa_cons (pv 0) (pa_cons (pe_bltn (v := .ty "int") (by rfl) M.int (by decide +kernel) rfl) pa_nil))) (pe_and (pe_not (pe_callB call_isi (by rfl) M.isi (by decide +kernel) (pa_cons (pv 0) (pa_cons (pe_bltn (v := .ty "bool") (by rfl) M.bool (by decide +kernel) rfl) pa_nil)))) (pe_one (pe_cmpR op_eq (pv 0) (pv 1) (nomark _))))))) pss_nil)
      (pss_cons (ps_if (pt_val (pe_callB call_isi (by rfl) M.isi (by decide +kernel) (pa_cons (pv 1) (pa_cons (pe_bltn (v := .ty "str") (by rfl) M.str (by decide +kernel) rfl) pa_nil))))
        (pss_one (ps_ret (pe_and (pe_callB call_isi (by rfl) M.isi (by decide +kernel) (pa_cons (pv 0) (pa_cons (pe_bltn (v := .ty "str") (by rfl) M.str (by decide +kernel) rfl) pa_nil))) (pe_one (pe_cmpR op_eq (pv 0) (pv 1) (nomark _)))))) pss_nil)
      (pss_one (ps_ret (pe_and (pe_cmp (pc_isN (pv 1)) rfl) (pe_one (pe_cmp (pc_isN (pv 0)) rfl)))))))), ?_⟩
    rcases hL with ⟨rfl, hs⟩ | ⟨a1, a2, xs, ys, rfl, rfl, h3, h4, h5, h6⟩
    · rcases hs with rfl | ⟨bb, rfl⟩ | ⟨i, rfl⟩ | ⟨z, rfl⟩
      · refine ⟨.non, rfl, (show (2 : Nat) ≤ sizeLine by decide), fun t nt => ⟨.non, t, _, .type "NoneType", [.type "tuple", .type "list"], false, rfl, upd_same, .cons (.ty _) (.cons (.ty _) .nil), .base .non, kitAny_cons (b := false) (kit_ty (by decide +kernel)) (fun _ => kitAny_cons (b := false) (kit_ty (by decide +kernel)) (fun _ => kitAny_nil) (fun e => nomatch e)) (fun e => nomatch e), _, rfl, iteF ?_⟩⟩
        refine ⟨.non, rfl, .non, _, _, _, false, rfl, .ty _, .base .non, kit_ty (by decide +kernel), _, rfl, iteF ?_⟩
        refine ⟨.non, rfl, .non, _, _, _, false, rfl, .ty _, .base .non, kit_ty (by decide +kernel), _, rfl, iteF ?_⟩
        refine ⟨.non, rfl, .non, _, _, _, false, rfl, .ty _, .base .non, kit_ty (by decide +kernel), _, rfl, iteF ?_⟩
        refine ⟨.non, rfl, _, rfl, iteT ⟨.non, rfl, ?_⟩⟩
        exact q _ (same_upd nt)
      · refine ⟨.bl bb, rfl, (show (2 : Nat) ≤ sizeLine by decide), fun t nt => ⟨.bl bb, t, _, .type "bool", [.type "tuple", .type "list"], false, rfl, upd_same, .cons (.ty _) (.cons (.ty _) .nil), .base (.bl bb), kitAny_cons (b := false) (kit_ty (by decide +kernel)) (fun _ => kitAny_cons (b := false) (kit_ty (by decide +kernel)) (fun _ => kitAny_nil) (fun e => nomatch e)) (fun e => nomatch e), _, rfl, iteF ?_⟩⟩
        refine ⟨.bl bb, rfl, .bl bb, _, _, _, true, rfl, .ty _, .base (.bl bb), kit_ty (by decide +kernel), _, rfl, iteT ?_⟩
        refine ⟨.bl bb, rfl, .bl bb, _, _, _, true, rfl, .ty _, .base (.bl bb), kit_ty (by decide +kernel), _, rfl, iteT ⟨.bl bb, rfl, .bl bb, rfl, rfl, ?_⟩⟩
        rw [decide_eq_true rfl]
        exact q _ (same_upd nt)
      · refine ⟨.int i, rfl, (show (2 : Nat) ≤ sizeLine by decide), fun t nt => ⟨.int i, t, _, .type "int", [.type "tuple", .type "list"], false, rfl, upd_same, .cons (.ty _) (.cons (.ty _) .nil), .base (.int i), kitAny_cons (b := false) (kit_ty (by decide +kernel)) (fun _ => kitAny_cons (b := false) (kit_ty (by decide +kernel)) (fun _ => kitAny_nil) (fun e => nomatch e)) (fun e => nomatch e), _, rfl, iteF ?_⟩⟩
        refine ⟨.int i, rfl, .int i, _, _, _, false, rfl, .ty _, .base (.int i), kit_ty (by decide +kernel), _, rfl, iteF ?_⟩
        refine ⟨.int i, rfl, .int i, _, _, _, true, rfl, .ty _, .base (.int i), kit_ty (by decide +kernel), _, rfl, iteT ?_⟩
        refine ⟨.int i, rfl, .int i, _, _, _, true, rfl, .ty _, .base (.int i), kit_ty (by decide +kernel), _, rfl, iteT ⟨.int i, rfl, .int i, _, _, _, false, rfl, .ty _, .base (.int i), kit_ty (by decide +kernel), _, rfl, _, rfl, iteT ⟨.int i, rfl, .int i, rfl, rfl, ?_⟩⟩⟩
        rw [decide_eq_true rfl]
        exact q _ (same_upd nt)
      · refine ⟨.str z, rfl, (show (2 : Nat) ≤ sizeLine by decide), fun t nt => ⟨.str z, t, _, .type "str", [.type "tuple", .type "list"], false, rfl, upd_same, .cons (.ty _) (.cons (.ty _) .nil), .base (.str z), kitAny_cons (b := false) (kit_ty (by decide +kernel)) (fun _ => kitAny_cons (b := false) (kit_ty (by decide +kernel)) (fun _ => kitAny_nil) (fun e => nomatch e)) (fun e => nomatch e), _, rfl, iteF ?_⟩⟩
        refine ⟨.str z, rfl, .str z, _, _, _, false, rfl, .ty _, .base (.str z), kit_ty (by decide +kernel), _, rfl, iteF ?_⟩
        refine ⟨.str z, rfl, .str z, _, _, _, false, rfl, .ty _, .base (.str z), kit_ty (by decide +kernel), _, rfl, iteF ?_⟩
        refine ⟨.str z, rfl, .str z, _, _, _, true, rfl, .ty _, .base (.str z), kit_ty (by decide +kernel), _, rfl, iteT ?_⟩
        refine ⟨.str z, rfl, .str z, _, _, _, true, rfl, .ty _, .base (.str z), kit_ty (by decide +kernel), _, rfl, iteT ⟨.str z, rfl, .str z, rfl, rfl, ?_⟩⟩
        rw [decide_eq_true rfl]
        exact q _ (same_upd nt)
    · obtain ⟨ty, bt, ht1, ht2, k2, k3, hq1, hq2⟩ : ∃ (ty : String) (bt : Bool), (∀ H', Same H H' → TyX K H' (.ref a1) (.type ty)) ∧ (∀ H', Same H H' → TyX K H' (.ref a2) (.type ty)) ∧ PySem.W.kitAny K (.type ty) [.type "tuple", .type "list"] = some true ∧ PySem.W.kitOne K (.type ty) (.type "tuple") = some bt ∧ (∀ H', Same H H' → SqL K H' a1 xs ∨ SqT K H' a1 xs) ∧ (∀ H', Same H H' → SqL K H' a2 ys ∨ SqT K H' a2 ys) := by
        rcases h3 with ⟨p1, p2⟩ | ⟨p1, p2⟩
        · exact ⟨"list", false, fun _ e => tyL (e.seq p1), fun _ e => tyL (e.seq p2), kitAny_cons (b := false) (kit_ty (by decide +kernel)) (fun _ => kitAny_cons (b := true) (kit_ty (by decide +kernel)) (fun e => nomatch e) (fun _ => rfl)) (fun e => nomatch e), kit_ty (by decide +kernel), fun _ e => .inl (e.seq p1), fun _ e => .inl (e.seq p2)⟩
        · exact ⟨"tuple", true, fun _ e => tyT (Same.tup e p1), fun _ e => tyT (Same.tup e p2), kitAny_cons (b := true) (kit_ty (by decide +kernel)) (fun e => nomatch e) (fun _ => rfl), kit_ty (by decide +kernel), fun _ e => .inr (Same.tup e p1), fun _ e => .inr (Same.tup e p2)⟩
      refine ⟨.ref a2, rfl, (show (2 : Nat) ≤ sizeLine by decide), fun t nt => ⟨.ref a2, t, _, .type ty, [.type "tuple", .type "list"], true, rfl, upd_same, .cons (.ty _) (.cons (.ty _) .nil), ht2 _ (same_upd nt), k2, _, rfl, iteT ?_⟩⟩
      have s1 : Same H (upd H t (.tup [.ty "tuple", .ty "list"])) := same_upd nt
      refine ⟨.ref a1, rfl, .ref a1, _, _, _, bt, rfl, .ty _, ht1 _ s1, k3, .ref a2, rfl, .ref a2, _, _, _, bt, rfl, .ty _, ht2 _ s1, k3, rfl, _, rfl, iteNS rfl ?_⟩
      refine ⟨.ref a1, rfl, (show (2 : Nat) ≤ sizeLine by decide), fun t2 nt2 => ⟨.ref a1, t2, _, .type ty, [.type "tuple", .type "list"], true, rfl, upd_same, .cons (.ty _) (.cons (.ty _) .nil), ht1 _ (s1.trans (same_upd nt2)), k2, _, rfl, iteF ?_⟩⟩
      have s2 := s1.trans (same_upd (o := .tup [.ty "tuple", .ty "list"]) nt2)
      generalize upd (upd H t (.tup [.ty "tuple", .ty "list"])) t2 (.tup [.ty "tuple", .ty "list"]) = H2 at s2 ⊢
      refine ⟨.ref a1, rfl, a1, xs, rfl, hq1 _ s2, .ref a2, rfl, a2, ys, rfl, hq2 _ s2, rfl, _, rfl, iteNS (by rw [h4]) ?_⟩
      refine ⟨.ref a2, rfl, a2, ys, rfl, hq2 _ s2, (ys.length : Nat), rfl, by omega, by omega, fun D nD => ?_⟩
      refine lc_range (lo := 0) (n := ((ys.length : Nat) : Int).toNat) (fun i H' => Same H2 H' ∧ H' D = some (.lst ((List.replicate i true).map V.bl))) ⟨same_upd nD, upd_same⟩ (fun i H' hi hP => ?_) (fun H' hP => ?_)
      · obtain ⟨sm, hD⟩ := hP
        have hi2 : i < ys.length := by omega
        have hi1 : i < xs.length := by omega
        have e0 : (0 : Int) + (i : Int) = (i : Nat) := by omega
        have s3 := s2.trans sm
        refine ⟨rfl, yesT ?_⟩
        refine ⟨.ref a1, rfl, .int (0 + i), rfl, ?_⟩
        rw [e0]
        refine ix_any (hq1 _ s3) (List.getElem?_eq_getElem hi1) ⟨.ref a2, rfl, _, rfl, ?_⟩
        refine ix_any (hq2 _ s3) (List.getElem?_eq_getElem hi2) ?_
        refine ⟨xs[i], ys[i], rfl, Lk.same s3 n _ _ (h6 i _ _ (List.getElem?_eq_getElem hi1) (List.getElem?_eq_getElem hi2)), fun H3 sm3 => ?_⟩
        refine ⟨_, sm3 _ _ hD, ?_, Same.offUpd (sm.trans sm3) nD, ?_⟩
        · rw [List.length_map, List.length_replicate]
          exact small1000 (by omega)
        · rw [upd_same, List.replicate_succ', List.map_append]
          rfl
      · obtain ⟨sm, hD⟩ := hP
        refine ⟨D, _, rfl, .inl (.inl hD), ?_⟩
        rw [show (List.replicate ((ys.length : Nat) : Int).toNat true).all id = true by simp]
        exact q _ (s2.trans sm)
theorem ok_like {f : Addr} {fd : FuncData} (F : Fun K "_law_like" "_law_like" sLike f fd) (b : Binds K fd ["_law_one", "_law_due"] []) (g : mg "_law_like" = some (.ref f)) (M : LkG mg) : ∀ n : Nat, FnOk P w K mg base CX0 n f fd ["_law_one", "_law_due"] (spLike K n)
  | 0 => ⟨fun vs H Q E h => by obtain ⟨v, u, _, h, _⟩ := h; exact h.elim, fun A outer s H args us vs Q E hr he hb hv h => by obtain ⟨v, u, _, h, _⟩ := h; exact h.elim⟩
  | n + 1 => like_step F b g M (ok_like F b g M n)
end
/-! ### rules whose answer is some object that holds the wanted things, new or not -/
theorem tuple_mulW1 (l : Addr) (items : Array Value) (n : Nat) (dd : Option Addr) (sl : Array (Option Value)) (u : Tok) :
    Meets (Builtin.«tuple.__mul__» ⟨[.ref l, .int 1 u], []⟩) (fun _ R s => s.heap.get? l = some { cls := .type "tuple", dict := dd, data := .seq items n, slots := sl } ∧ R (.ok (.ret (Value.ref l))) { s with heap := s.heap, toks := s.toks }) :=
  .of_wp fun prog w A R s h => by
    obtain ⟨hp, g, d, tk, os⟩ := s
    obtain ⟨hl, h⟩ := h
    have f1 := AutoSeq1.idx_int
    wp_walk using wpAny_loadPart' hl
    exact ⟨_, rfl, h⟩
section
variable {X : Cx}
def rRepT1 (K : PySem.W.Frag) : R2 := fun x y H Q => ∃ l xs, x = .ref l ∧ y = .int 1 ∧ SqT K H l xs ∧ Q (.ref l) H
theorem op_repT1 : OpR X (binaryOp .Mult) (rRepT1 X.K) := by
  intro pins s σ H x y v u Q I rx ry h
  obtain ⟨l, xs, rfl, rfl, hT, q⟩ := h
  cases rx
  obtain ⟨t, rfl⟩ := ry
  obtain ⟨its, r, ⟨⟨cls, dd, data, sl⟩, ho, hc, n, hd⟩, hs⟩ := I.tuple hT
  simp only at hc hd
  subst hc hd
  refine wpAny_binaryOp_repeat_ref (T := "tuple") (U := "int") (by decide) ⟨_, ho, rfl⟩ (fun s' => typeIs_int s' 1 t) noFill_tuple_mul F.fills_int_mul F.slot_int_rmul repeat_tuple F.slot_int_index.lookup
    (call_meets F.slot_int_rmul (typeIs_int s 1 t) F.entry_int_rmul (F.args_int_rmul_2 _ _) (int_rmul_tuple 1 t l its.toArray n dd sl)
      ⟨ho, rfl, ⟨_, ho, rfl⟩, call_meets F.slot_tuple_mul ⟨_, ho, rfl⟩ F.entry_tuple_mul (F.args_tuple_mul_2 _ _) (tuple_mulW1 l its.toArray n dd sl t) ⟨ho, ?_⟩⟩)
  exact ⟨.ref l, H, I, rfl, q⟩
/-- t * k -/
def rRepS (K : PySem.W.Frag) : R2 := fun x y H Q => ∃ l k xs, x = .ref l ∧ y = .int k ∧ SqT K H l xs ∧ xs ≠ [] ∧ 1 ≤ k ∧ k ≤ 1000 ∧ xs.length ≤ 1000 ∧ ∀ p H', Same H H' → SqT K H' p (List.replicate k.toNat xs).flatten → Q (.ref p) H'
theorem op_repS : OpR X (binaryOp .Mult) (rRepS X.K) := by
  intro pins s σ H x y v u Q I rx ry h
  obtain ⟨l, k, xs, rfl, rfl, hT, hne, h1, h2, h3, q⟩ := h
  by_cases hk : k = 1
  · subst hk
    refine op_repT1 pins s σ H _ _ v u Q I rx ry ⟨l, xs, rfl, rfl, hT, q l H (Same.refl H) ?_⟩
    rw [show (List.replicate (1 : Int).toNat xs).flatten = xs by simp]
    exact hT
  · exact op_repT pins s σ H _ _ v u Q I rx ry ⟨l, k, xs, rfl, rfl, hT, hne, by omega, h2, h3, fun p np => q p _ (same_upd np) (SqT.of upd_same)⟩
/-- t + u -/
def rCatS (K : PySem.W.Frag) : R2 := fun x y H Q => ∃ a b xs ys, x = .ref a ∧ y = .ref b ∧ SqT K H a xs ∧ SqT K H b ys ∧ xs.length + ys.length ≤ sizeLine ∧ ∀ p H', Same H H' → SqT K H' p (xs ++ ys) → Q (.ref p) H'
theorem op_catS : OpR X (binaryOp .Add) (rCatS X.K) := by
  intro pins s σ H x y v u Q I rx ry h
  obtain ⟨a, b, xs, ys, rfl, rfl, ha, hb, hz, q⟩ := h
  refine op_catA pins s σ H _ _ v u Q I rx ry ⟨a, b, xs, ys, rfl, rfl, ha, hb, hz, fun e => ?_, fun _ e => ?_, fun _ _ p np => q p _ (same_upd np) (SqT.of upd_same)⟩
  · subst e
    exact q b H (Same.refl H) hb
  · subst e
    exact q a H (Same.refl H) (by rw [List.append_nil]; exact ha)
/-- t[lo:hi] -/
def rSlS (K : PySem.W.Frag) : V → Option Int → Option Int → Hp → VK → Prop := fun x lo hi H Q => ∃ a xs, x = .ref a ∧ (SqL K H a xs ∨ SqT K H a xs) ∧ ∀ p H', Same H H' → ((∃ ys, SqL K H a ys) → SqL K H' p (cutV xs lo hi)) → ((∃ ys, SqT K H a ys) → SqT K H' p (cutV xs lo hi)) → (SqL K H' p (cutV xs lo hi) ∨ SqT K H' p (cutV xs lo hi)) → Q (.ref p) H'
def rSlT' (K : PySem.W.Frag) : V → Option Int → Option Int → Hp → VK → Prop := fun x lo hi H Q => ∃ a xs, x = .ref a ∧ SqT K H a xs ∧ ∀ p H', Same H H' → SqT K H' p (cutV xs lo hi) → Q (.ref p) H'
theorem cut_whole {α : Type} {xs : List α} {lo hi : Option Int} (h : HT.sIx xs.length 0 lo = 0 ∧ HT.sIx xs.length xs.length hi = xs.length) : ((xs.drop (HT.sIx xs.length 0 lo)).take (HT.sIx xs.length xs.length hi - HT.sIx xs.length 0 lo)) = xs := by
  rw [h.1, h.2]
  simp
theorem sl_tupS : L2.SlR X (rSlT' X.K) := by
  intro pins s σ H x v vl vu lo hi sl Q I rx hs pl pu h
  obtain ⟨a, xs, rfl, hx, q⟩ := h
  refine sl_tupA pins s σ H _ v vl vu lo hi sl Q I rx hs pl pu ⟨a, xs, rfl, hx, fun e => ?_, fun _ p np => q p _ (same_upd np) (SqT.of upd_same)⟩
  exact q a H (Same.refl H) (by rw [show cutV xs lo hi = xs from cut_whole e]; exact hx)
/-- a list's or a tuple's slice -/
def rSlQ (K : PySem.W.Frag) : V → Option Int → Option Int → Hp → VK → Prop := fun x lo hi H Q => ∃ a xs, x = .ref a ∧ (SqL K H a xs ∨ SqT K H a xs) ∧ ∀ p H', Same H H' → (SqL K H' p (cutV xs lo hi) ∨ SqT K H' p (cutV xs lo hi)) → Q (.ref p) H'
theorem sl_seqS : L2.SlR X (rSlQ X.K) := by
  intro pins s σ H x v vl vu lo hi sl Q I rx hs pl pu h
  obtain ⟨a, xs, rfl, hx, q⟩ := h
  rcases hx with hx | hx
  · exact sl_list pins s σ H _ v vl vu lo hi sl Q I rx hs pl pu ⟨a, xs, rfl, hx, fun p np => q p _ (same_upd np) (.inl (SqL.of upd_same))⟩
  · exact sl_tupS pins s σ H _ v vl vu lo hi sl Q I rx hs pl pu ⟨a, xs, rfl, hx, fun p H' e h => q p H' e (.inr h)⟩
/-- tuple(x) -/
def rTupS (K : PySem.W.Frag) : List V → Hp → VK → Prop := fun vs H Q => ∃ p ys, vs = [.ref p] ∧ (SqL K H p ys ∨ SqT K H p ys) ∧ ∀ l H', Same H H' → SqT K H' l ys → Q (.ref l) H'
theorem call_tupS : CallR X (.type "tuple") (rTupS X.K) := by
  intro pins s σ H xs us Q I r h
  obtain ⟨p, ys, rfl, hx, q⟩ := h
  refine call_tuple_of pins s σ H _ us Q I r ⟨p, ys, rfl, ?_⟩
  rcases hx with hx | hx
  · exact .inl ⟨hx, fun l nl => q l _ (same_upd nl) (SqT.of upd_same)⟩
  · exact .inr ⟨hx, q p H (Same.refl H) hx⟩
/-- len(x) -/
def rLenQ (K : PySem.W.Frag) : List V → Hp → VK → Prop := fun xs H Q => ∃ p ys, xs = [.ref p] ∧ (SqL K H p ys ∨ SqT K H p ys) ∧ Q (.int (ys.length : Nat)) H
theorem call_lenQ : CallR X (.builtin "len") (rLenQ X.K) := call_len_seq
end
theorem cut_to {α : Type} (xs : List α) (k : Nat) : ((xs.drop (HT.sIx xs.length 0 none)).take (HT.sIx xs.length xs.length (some (k : Int)) - HT.sIx xs.length 0 none)) = xs.take k := by
  rw [HT.sIx_none, HT.sIx_nat, List.drop_zero, Nat.sub_zero]
  rcases Nat.le_total k xs.length with h | h
  · rw [Nat.min_eq_left h]
  · rw [Nat.min_eq_right h, List.take_of_length_le h, List.take_length]
theorem cut_from {α : Type} (xs : List α) (k : Nat) : ((xs.drop (HT.sIx xs.length 0 (some (k : Int)))).take (HT.sIx xs.length xs.length none - HT.sIx xs.length 0 (some (k : Int)))) = xs.drop k := by
  rw [HT.sIx_none, HT.sIx_nat]
  rcases Nat.le_total k xs.length with h | h
  · rw [Nat.min_eq_left h, ← List.length_drop, List.take_length]
  · rw [Nat.min_eq_right h, List.drop_of_length_le h, List.drop_length, List.take_nil]
theorem cutV_to (xs : List V) (k : Nat) : cutV xs none (some (k : Int)) = xs.take k := cut_to xs k
theorem cutV_from (xs : List V) (k : Nat) : cutV xs (some (k : Int)) none = xs.drop k := cut_from xs k
/-! ### data of whole numbers -/
theorem dpI {K : PySem.W.Frag} {H : Hp} : ∀ ns : List Int, DpAll K H (ns.map V.int) (ns.map PyData.int)
  | [] => .nil
  | n :: r => .cons (.int n) (dpI r)
theorem canLay_ints : ∀ ns : List Int, PyData.canLayAll0 (ns.map PyData.int) = true
  | [] => rfl
  | _ :: r => by simp [PyData.canLayAll0, PyData.canLay0, canLay_ints r]
theorem depth_ints : ∀ ns : List Int, PyData.depthAll (ns.map PyData.int) = 0
  | [] => rfl
  | _ :: r => by simp [PyData.depthAll, PyData.depth, depth_ints r]
theorem shL (ns : List Int) : SeqAt.shaped (.list (ns.map PyData.int)) = true := by
  simp [SeqAt.shaped, PyData.canLay0, PyData.depth, canLay_ints, depth_ints]
theorem shT (ns : List Int) : SeqAt.shaped (.tuple (ns.map PyData.int)) = true := by
  simp [SeqAt.shaped, PyData.canLay0, PyData.depth, canLay_ints, depth_ints]
theorem eqv_ints : ∀ ns ms : List Int, PyData.eqvAll (ns.map PyData.int) (ms.map PyData.int) = decide (ns = ms)
  | [], [] => rfl
  | [], _ :: _ => by simp [PyData.eqvAll]
  | _ :: _, [] => by simp [PyData.eqvAll]
  | a :: r, b :: t => by
    simp only [List.map_cons, PyData.eqvAll, PyData.eqv, eqv_ints r t]
    by_cases h : a = b <;> by_cases h' : r = t <;> simp [h, h']
theorem eqvL (ns ms : List Int) : PyData.eqv (.list (ns.map PyData.int)) (.list (ms.map PyData.int)) = decide (ns = ms) := by
  simp only [PyData.eqv]
  exact eqv_ints ns ms
theorem eqvT (ns ms : List Int) : PyData.eqv (.tuple (ns.map PyData.int)) (.tuple (ms.map PyData.int)) = decide (ns = ms) := by
  simp only [PyData.eqv]
  exact eqv_ints ns ms
theorem dpL {K : PySem.W.Frag} {H : Hp} {a : Addr} {ns : List Int} (h : SqL K H a (ns.map V.int)) : Dp K H (.ref a) (.list (ns.map PyData.int)) := .lst h (dpI ns)
theorem dpT {K : PySem.W.Frag} {H : Hp} {a : Addr} {ns : List Int} (h : SqT K H a (ns.map V.int)) : Dp K H (.ref a) (.tuple (ns.map PyData.int)) := .tup h (dpI ns)
theorem flat_map (ns : List Int) (k : Nat) : (List.replicate k (ns.map V.int)).flatten = ((List.replicate k ns).flatten).map V.int := by
  induction k with
  | zero => rfl
  | succ k ih => rw [List.replicate_succ, List.replicate_succ, List.flatten_cons, List.flatten_cons, List.map_append, ih]
theorem small_k {n : Nat} (h : n ≤ 5000) : n < sizeLine := by
  rw [sizeLine_eq]
  omega
theorem same_any {K : PySem.W.Frag} {H H' : Hp} {a : Addr} {xs : List V} (e : Same H H') (h : SqL K H a xs ∨ SqT K H a xs) : SqL K H' a xs ∨ SqT K H' a xs := by
  rcases h with h | h
  · exact .inl (e.seq h)
  · exact .inr (Same.tup e h)
def nI (ns : List Nat) : List Int := ns.map fun (n : Nat) => (n : Int)
/-! ### _law_far, _law_strange -/
abbrev sFar : Stmt := topS 62
theorem scFar : FnScope ["_law_bag_here"] ["_law_bag_here"] (defScope sFar) := ⟨rfl, rfl, rfl, by decide +kernel, rfl, by decide +kernel, by decide +kernel⟩
def spFar : Sp := fun vs H Q _ => ∃ (b c : Addr), vs = [.ref b] ∧ Bag H b c ∧ ∀ H' (r : Nat), Off b H H' → Bag H' b c → Q (.int (r : Nat)) H'
abbrev sStr : Stmt := topS 63
theorem scStr : FnScope ["_law_bag_here", "_law_many"] ["_law_bag_here", "_law_many"] (defScope sStr) := ⟨rfl, rfl, rfl, by decide +kernel, rfl, by decide +kernel, by decide +kernel⟩
/-- a number that is none of 0 .. m - 1 -/
def spStr : Sp := fun vs H Q _ => ∃ (b c : Addr) (m : Int), vs = [.ref b, .int m] ∧ Bag H b c ∧ ∀ H' (z : Int), Off b H H' → Bag H' b c → (z < 0 ∨ m ≤ z) → Q (.int z) H'
section
variable {P : Program} {w : World} {K : PySem.W.Frag} {mg : Str → Option Value} {base : Heap}
theorem ok_far {f fP : Addr} {fd fdP : FuncData} {k : Nat} (F : Fun K "_law_far" "_law_far" sFar f fd) (FP : Fun K "_law_pull" "_law_pull" sPull fP fdP) (bP : Binds K fdP ["_law_bag_here", "_law_size"] []) (gP : mg "_law_pull" = some (.ref fP))
    (GP : FnOk P w K mg base CX0 k fP fdP ["_law_bag_here", "_law_size"] spPull) : FnOk P w K mg base CX0 (k + 1) f fd ["_law_bag_here"] spFar := by
  refine F.ok scFar (fun vs H Q E h => ?_) (fun cdv A outer s H vs Q E hr h => ?_)
  · obtain ⟨b, c, rfl, _⟩ := h
    rfl
  · obtain ⟨b, c, rfl, hB, q⟩ := h
    refine ⟨_, pss_one (ps_ret (pe_call GP hr (by rfl) gP FP.kp bP .nil pass0 (pa_cons (pv 0) (pa_cons (pe_op op_pow pe_int pe_int) pa_nil)))), ?_⟩
    refine ⟨.ref b, rfl, 10, 29, rfl, rfl, ⟨by decide, by decide, by decide⟩, b, c, _, rfl, hB, by decide, by decide, fun H' r off bag r0 _ => ?_⟩
    obtain ⟨m, rfl⟩ := Int.eq_ofNat_of_zero_le r0
    exact q H' m off bag
theorem ok_str {f fO fF : Addr} {fd fdO fdF : FuncData} {k : Nat} (F : Fun K "_law_strange" "_law_strange" sStr f fd)
    (FO : Fun K "_law_of" "_law_of" sOf fO fdO) (bO : Binds K fdO ["_law_bag_here", "_law_things"] []) (gO : mg "_law_of" = some (.ref fO)) (GO : FnOk P w K mg base CX0 k fO fdO ["_law_bag_here", "_law_things"] spOf)
    (FF : Fun K "_law_far" "_law_far" sFar fF fdF) (bF : Binds K fdF ["_law_bag_here"] []) (gF : mg "_law_far" = some (.ref fF)) (GF : FnOk P w K mg base CX0 k fF fdF ["_law_bag_here"] spFar) :
    FnOk P w K mg base CX0 (k + 1) f fd ["_law_bag_here", "_law_many"] spStr := by
  refine F.ok scStr (fun vs H Q E h => ?_) (fun cdv A outer s H vs Q E hr h => ?_)
  · obtain ⟨b, c, m, rfl, _⟩ := h
    rfl
  · obtain ⟨b, c, m, rfl, hB, q⟩ := h
    refine ⟨_, pss_one (ps_ret (pe_call GO hr (by rfl) gO FO.kp bO .nil pass0 (pa_cons (pv 0) (pa_cons (pe_lst (pa_cons (pe_un un_neg pe_int) (pa_cons (pv 1)
      (pa_cons (pe_op op_add (pe_op op_add (pv 1) pe_int) (pe_call GF hr (by rfl) gF FF.kp bF .nil pass0 (pa_cons (pv 0) pa_nil)))
      (pa_cons (pe_op op_sub (pe_un un_neg pe_int) (pe_call GF hr (by rfl) gF FF.kp bF .nil pass0 (pa_cons (pv 0) pa_nil))) pa_nil))))) pa_nil)))), ?_⟩
    refine ⟨.ref b, rfl, 1, rfl, .int m, rfl, .int m, rfl, _, _, rfl, rfl, .ref b, rfl, b, c, rfl, hB, fun H1 r off1 hB1 => ?_⟩
    refine ⟨_, _, rfl, rfl, 2, rfl, .ref b, rfl, b, c, rfl, hB1, fun H2 r2 off2 hB2 => ?_⟩
    refine ⟨_, _, rfl, rfl, (show (4 : Nat) ≤ sizeLine by decide), fun t nt => ?_⟩
    refine ⟨b, c, t, _, rfl, hB2.same (same_upd nt), upd_same, (hB2.ne nt).1, (show (0 : Nat) < 4 by decide), (show (4 : Nat) ≤ 1000 by decide), fun H3 v off3 hB3 hv => ?_⟩
    have off := ((off1.trans off2).trans (Off.same (same_upd nt))).trans off3
    simp only [List.mem_cons, List.not_mem_nil, or_false] at hv
    rcases hv with rfl | rfl | rfl | rfl
    · exact q H3 _ off hB3 (.inl (by omega))
    · exact q H3 _ off hB3 (.inr (by omega))
    · exact q H3 _ off hB3 (.inr (by omega))
    · exact q H3 _ off hB3 (.inl (by omega))
end
/-! ### a comprehension whose element is told what the def knows at its start -/
section
variable {X : Cx}
theorem lc_told {pins : List (Addr × Obj)} {s : Shared} {σ : L2.St} {H : Hp} {Q : VK} {elt tg iter : Expr} {ifs : List Expr} {scope : Scope} {own : List (Str × Nat)} {pos pos' : Pos} {wi : TI} {g : TG} {tt : TT} {te : TE} {use : Option (Value → Sem Unit)} {Qf : Value → Shared → Prop}
    (calm : X.calm = true) (nd : X.N.Nodup) (I : Inv X pins σ H s) (hi : PI X tg iter wi) (ok : BlkOk X.N X.env.scope scope own)
    (hg : ∀ (s : Shared) (H : Hp) (C : Addr) (cl : List (Str × Addr)) (fp : List Addr), PG (X.blk s H scope (compEnvC scope cl C X.env) fp) tg g) (ht : ∀ (s : Shared) (H : Hp) (C : Addr) (cl : List (Str × Addr)) (fp : List Addr), PTs (X.blk s H scope (compEnvC scope cl C X.env) fp) ifs tt)
    (he : ∀ (s : Shared) (H : Hp) (C : Addr) (cl : List (Str × Addr)) (fp : List Addr), Inv X pins σ H s → (∀ b ∈ fp, FpOk X pins H b) → PE (X.blk s H scope (compEnvC scope cl C X.env) fp) elt te) (hs : ∀ x, foldedSetIterable iter X.env x = pure x)
    (h : tLc wi g tt te (own.map (·.2)) σ H Q)
    (out : ∀ D C s' m H', Inv X pins σ H' s' → Q (.ref D) H' → s'.heap.Ns C m → FpOk X pins H' C → compPost (model X.prog X.w) X.A X.xe use Qf (.ref D) C (.ok .next) s') :
    wpAny (model X.prog X.w) X.A (comprehension (.ListComp elt [⟨tg, iter, ifs, 0⟩] scope pos) scope X.env pos' (newList []) false (eval iter X.env) use) Qf X.xe s := by
  have cap : ∀ y ∈ scope.names, y.2 = .free → ∃ c, X.env.cells.lookup y.1 = some c := fun y hy e => (ok.free y hy e).elim (fun k => I.ok.has _ (.inl k)) fun k => I.ok.has _ (.inr k)
  refine wpAny_comprehension_free (use := use) rfl hs (closure_ok cap) ok.kind (fun y hy e => by rw [ok.uniq y hy, e]) (thn (hi.run pins s σ H _ I h) fun xv sa ha => thn ha fun itv sb hb => ?_)
  obtain ⟨it, fp, tn, J, Hb, rfl, Ib, T, stb, fb, q⟩ := hb
  refine wpAny_newObj_type (newEnv_comp ?_) (by show 0 ≤ sizeLine; decide)
  have fresh : Hb sb.heap.objs.size = none := Ib.hok.fresh (Nat.le_refl _)
  obtain ⟨W, ⟨m0, w0⟩, turn⟩ := q sb.heap.objs.size fresh
  -- the list is laid
  have Ic : Inv X pins σ (upd Hb sb.heap.objs.size (.lst [])) { sb with heap := sb.heap.push { cls := .type "list", data := .seq ([] : List Value).toArray } } :=
    Ib.laid (t' := sb.toks) (fun b o e => Heap.get?_push_of_some _ e) (Nat.le_refl _) ⟨Nat.zero_le _, [], 0, .nil, Heap.get?_push_size _ rfl⟩
  have stc : tn 0 (sb.heap.push { cls := .type "list", data := .seq ([] : List Value).toArray }) := T.keep _ _ _ stb fun b _ o e => Heap.get?_push_of_some _ e
  have fc : ∀ b ∈ fp, FpOk X pins (upd Hb sb.heap.objs.size (.lst [])) b ∧ b < (sb.heap.push { cls := .type "list", data := .seq ([] : List Value).toArray }).objs.size := fun b hbm => by
    obtain ⟨o, e, _⟩ := T.obj _ _ stb b hbm
    have lt := Heap.lt_size e
    exact ⟨⟨by rw [upd_ne (Nat.ne_of_lt lt)]; exact (fb b hbm).1, (fb b hbm).2⟩, by rw [Heap.size_push]; exact Nat.lt_succ_of_lt lt⟩
  generalize sb.heap.objs.size = D at fresh w0 turn Ic fc ⊢
  generalize upd Hb D (.lst []) = Hc at w0 Ic fc
  generalize hsc : ({ sb with heap := sb.heap.push { cls := .type "list", data := .seq ([] : List Value).toArray } } : Shared) = sc at Ic
  have esc : sc.heap = sb.heap.push { cls := .type "list", data := .seq ([] : List Value).toArray } := by rw [← hsc]
  rw [← esc] at stc fc
  have Id := block_start Ic ok nd fc
  have PGx := hg sc Hc sc.heap.objs.size (cellsFrom (sc.heap.objs.size + 1) scope.names (cloFrom X.env.cells scope.names [])) fp
  have PTx := ht sc Hc sc.heap.objs.size (cellsFrom (sc.heap.objs.size + 1) scope.names (cloFrom X.env.cells scope.names [])) fp
  have PEx := he sc Hc sc.heap.objs.size (cellsFrom (sc.heap.objs.size + 1) scope.names (cloFrom X.env.cells scope.names [])) fp Ic fun b hbm => (fc b hbm).1
  show codeAny _ _ (.compStart (.ListComp elt [⟨tg, iter, ifs, 0⟩] scope pos) 0 (.ref it) (.ref D) (compEnvC scope (cellsFrom (sc.heap.objs.size + 1) scope.names (cloFrom X.env.cells scope.names [])) sc.heap.objs.size X.env)) (compPost (model X.prog X.w) X.A X.xe use Qf (.ref D) sc.heap.objs.size) { sc with heap := pushCells (sc.heap.push { cls := .type "dict", data := .dict #[] }) scope.names }
  generalize hen : compEnvC scope (cellsFrom (sc.heap.objs.size + 1) scope.names (cloFrom X.env.cells scope.names [])) sc.heap.objs.size X.env = en at Id PGx PTx PEx ⊢
  have eL : en.locals = sc.heap.objs.size := by subst hen; rfl
  generalize hsd : ({ sc with heap := pushCells (sc.heap.push { cls := .type "dict", data := .dict #[] }) scope.names } : Shared) = sd at Id ⊢
  have std : tn 0 sd.heap := T.keep _ _ _ stc fun b _ o e => by rw [← hsd]; exact pushCells_keeps _ _ _ _ (Heap.get?_push_of_some _ e)
  have foot : ∀ {σ' : L2.St} {H' : Hp} {s' : Shared}, Inv (X.blk sc Hc scope en fp) [] σ' H' s' → (∀ b ∈ fp, H' b = none) → ∀ b ∈ fp, FpOk (X.blk sc Hc scope en fp) [] H' b := fun {σ' H' s'} J hn b hbm =>
    ⟨hn b hbm, (J.ok.exf b hbm).1, J.ok.exfs b hbm, .inl hbm, fun x c e => (J.ok.exf b hbm).2 x c e, fun p hp => absurd (show p ∈ ([] : List (Addr × Obj)) ++ [] from hp) (by simp)⟩
  have loop : codeAny (model X.prog X.w) X.A (.compLoop (.ListComp elt [⟨tg, iter, ifs, 0⟩] scope pos) 0 (.ref it) (.ref D) en) (compPost (model X.prog X.w) X.A X.xe use Qf (.ref D) sc.heap.objs.size) sd := by
    refine compLoop_any (fun n s' => ∃ i H', Inv (X.blk sc Hc scope en fp) [] (wipe σ (own.map (·.2))) H' s' ∧ tn i s'.heap ∧ (∀ b ∈ fp, H' b = none) ∧ W i n H') ?_ m0 ⟨0, Hc, Id, std, (fun b hbm => (fc b hbm).1.1), w0⟩
    rintro n se ⟨i, He, Ie, ste, ne, we⟩
    rcases turn i n He we with ⟨stop, done⟩ | ⟨go, Nx, later, step⟩
    · refine thnF (T.done (X.blk sc Hc scope en fp) rfl rfl rfl calm i [] se _ He (fun _ _ => False) Ie (foot Ie ne) ste stop) fun r sf hf => ?_
      obtain ⟨rfl, If⟩ := hf
      have back : Inv X pins σ He sf := Ic.call' (ch := fp) If.os If.base If.hok If.bare fun b hbm => ⟨(fc b hbm).1.2.2.2.1, (fc b hbm).1.2.1, (fc b hbm).1.2.2.2.2.1, (fc b hbm).1.2.2.2.2.2⟩
      have fz : He en.locals = none := If.free
      obtain ⟨m, ns, _⟩ := If.loc
      have ns : sf.heap.Ns en.locals m := ns
      rw [eL] at fz ns
      exact out D sc.heap.objs.size sf m He back done ns (Ic.fpOk (Nat.le_refl _) fz)
    · refine thnF (T.item (X.blk sc Hc scope en fp) rfl rfl rfl calm i [] se _ He (fun _ _ => False) Ie (foot Ie ne) ste go) fun r sf hf => ?_
      obtain ⟨u, rfl, hf⟩ := hf
      refine thnF hf fun _ sg hgg => ?_
      obtain ⟨x, Hg, Ig, rx, yx, stg, ng⟩ := hgg
      refine thnF (PGx.run _ sg _ Hg x u _ (Ig.pinned (foot Ig ng) (T.obj _ _ stg)) rx (step x Hg yx)) fun _ sh hh => ?_
      obtain ⟨σh, Hh, Ih, wh, qh⟩ := hh
      refine thnF (PTx.run _ sh σh Hh _ Ih qh) fun b si hsi => ?_
      obtain ⟨Hi, Ii, qi⟩ := hsi
      have next : ∀ {s' : Shared} {H' : Hp}, Inv (X.blk sc Hc scope en fp) ([] ++ pinsAt fp sg.heap) σh H' s' → Nx H' → ∃ m, m < n ∧ ∃ i H', Inv (X.blk sc Hc scope en fp) [] (wipe σ (own.map (·.2))) H' s' ∧ tn i s'.heap ∧ (∀ b ∈ fp, H' b = none) ∧ W i m H' := fun {s' H'} J nx => by
        obtain ⟨m', lt, w'⟩ := later H' nx
        have held : ∀ b ∈ fp, ∀ o, sg.heap.get? b = some o → s'.heap.get? b = some o ∧ H' b = none := fun b hbm o e => by
          have z := J.pin (b, o) (List.mem_append_right _ (List.mem_append_right _ (mem_pinsAt hbm e)))
          exact ⟨z.1, z.2.1⟩
        refine ⟨m', lt, i + 1, H', (J.unpinned (pins := [])).weak (by rw [← wh, wipe_length]) (fun j v e => ?_), T.keep _ _ _ stg fun b hbm o e => (held b hbm o e).1, fun b hbm => ?_, w'⟩
        · rw [← wh] at e
          exact (wipe_some e).1
        · obtain ⟨o, e, _⟩ := T.obj _ _ stg b hbm
          exact (held b hbm o e).2
      cases b with
      | false =>
        simp only [Bool.false_eq_true, if_false] at qi ⊢
        exact next Ii qi
      | true =>
        simp only [if_true] at qi ⊢
        refine thnF (PEx.run _ si σh Hi _ Ii qi) fun z sj hj => ?_
        obtain ⟨yv, Hj, Ij, rj, acc, hDj, hzj, nx⟩ := hj
        exact app_ok (X := X.blk sc Hc scope en fp) Ij hDj hzj rj fun sk Ik => next Ik nx
  exact codeAny_compStart_list loop (T.self X.A 0 _ _ _ std loop)
/-- [elt for tg in iter if ..] as a value; js: where the captured names of lambdas stand -/
theorem pe_lcI {elt tg iter : Expr} {ifs : List Expr} {scope : Scope} {own : List (Str × Nat)} {pos : Pos} {wi : TI} {g : TG} {tt : TT} {te : L2.St → TE} (calm : X.calm = true) (nd : X.N.Nodup) (hi : PI X tg iter wi) (ok : BlkOk X.N X.env.scope scope own)
    (hg : ∀ (s : Shared) (H : Hp) (C : Addr) (cl : List (Str × Addr)) (fp : List Addr), PG (X.blk s H scope (compEnvC scope cl C X.env) fp) tg g) (ht : ∀ (s : Shared) (H : Hp) (C : Addr) (cl : List (Str × Addr)) (fp : List Addr), PTs (X.blk s H scope (compEnvC scope cl C X.env) fp) ifs tt)
    (he : ∀ (pins : List (Addr × Obj)) (σ : L2.St) (s : Shared) (H : Hp) (C : Addr) (cl : List (Str × Addr)) (fp : List Addr), Inv X pins σ H s → (∀ b ∈ fp, FpOk X pins H b) → PE (X.blk s H scope (compEnvC scope cl C X.env) fp) elt (te σ)) (hs : ∀ x, foldedSetIterable iter X.env x = pure x := by intro _; rfl) :
    PE X (.ListComp elt [⟨tg, iter, ifs, 0⟩] scope pos) (fun σ H Q => tLc wi g tt (te σ) (own.map (·.2)) σ H Q) := by
  refine ⟨fun pins s σ H Q I h => ?_⟩
  rw [eval_ListComp]
  refine lc_told calm nd I hi ok hg ht (he pins σ) hs h fun D C s' m H' I' q hn f => ⟨m, hn, fun h'' sb => ?_⟩
  obtain ⟨f0, f1, f2, f3, f4, f5⟩ := f
  exact ⟨.ref D, H', I'.turned (t' := s'.toks) (fun b o hb e => (sb.2 b hb).trans e) f0 f1 f3 f4 f5, rfl, q⟩
end
section
variable {X : Cx}
/-- name = [..] on one line, the name a local -/
theorem ps_setLcI {i : Nat} {y : Str} {py : Pos} {elt tg iter : Expr} {ifs : List Expr} {scope : Scope} {own : List (Str × Nat)} {pos spos : Pos} {wi : TI} {g : TG} {tt : TT} {te : L2.St → TE} (calm : X.calm = true) (nd : X.N.Nodup) (hy : X.N[i]? = some y) (hyl : X.env.scope.names.lookup y = some .local)
    (sw : swapsWith (.ListComp elt [⟨tg, iter, ifs, 0⟩] scope pos) (some (.Name y py)) spos.line X.env = pure true) (hi : PI X tg iter wi) (ok : BlkOk X.N X.env.scope scope own)
    (hg : ∀ (s : Shared) (H : Hp) (C : Addr) (cl : List (Str × Addr)) (fp : List Addr), PG (X.blk s H scope (compEnvC scope cl C X.env) fp) tg g) (ht : ∀ (s : Shared) (H : Hp) (C : Addr) (cl : List (Str × Addr)) (fp : List Addr), PTs (X.blk s H scope (compEnvC scope cl C X.env) fp) ifs tt)
    (he : ∀ (pins : List (Addr × Obj)) (σ : L2.St) (s : Shared) (H : Hp) (C : Addr) (cl : List (Str × Addr)) (fp : List Addr), Inv X pins σ H s → (∀ b ∈ fp, FpOk X pins H b) → PE (X.blk s H scope (compEnvC scope cl C X.env) fp) elt (te σ)) (hs : ∀ x, foldedSetIterable iter X.env x = pure x := by intro _; rfl) :
    PS X (.Assign [.Name y py] (.ListComp elt [⟨tg, iter, ifs, 0⟩] scope pos) spos) (tAsg (fun σ H Q => tLc wi g tt (te σ) (own.map (·.2)) σ H Q) (gName i)) := by
  refine ⟨fun pins s σ H D I h => ?_⟩
  rw [exec_Assign_Name_used _ _ _ _ sw]
  refine wpAny_bind (wpAny_standAt (wpAny_bind ?_))
  show wpAny _ X.A (do let _ ← comprehension (.ListComp elt [⟨tg, iter, ifs, 0⟩] scope pos) scope X.env (firstIterPos [⟨tg, iter, ifs, 0⟩] pos) (newList []) false (eval iter X.env) (some (assign (.Name y py) X.env))) _ _ s
  have h : tLc wi g tt (te σ) (own.map (·.2)) σ H (fun x H1 => gName i x σ H1 D.nx) := h
  refine wpAny_bind (thn (lc_told (Qf := fun _ s' => SP X pins D .next s') calm nd I hi ok hg ht (he pins σ) hs h fun l c s' m H' I' q ns f => ?_) fun _ s' hq => wpAny_pure (wpAny_pure hq))
  show wpAny _ _ (assign (.Name y py) X.env (.ref l)) _ _ _
  obtain ⟨f0, f1, f2, f3, f4, f5⟩ := f
  refine wpAny_assign_Name (store_ok2 (v := V.ref l) I' nd hy (.inl hyl) rfl (fun s2 I2 z => ?_) (.inr hyl))
  obtain ⟨a, sb, ha⟩ := z
  have ne : c ≠ a := ha.elim (fun z => by rw [z]; exact f1) fun z e => f4 y a z e.symm
  exact ⟨m, ns.sameBut sb ne, fun h3 sb3 => ⟨_, H', I2.turned (t' := s2.toks) (fun b o hb e => (sb3.2 b hb).trans e) f0 f1 f3 f4 f5, q⟩⟩
end
/-! ### a lambda with parameters, handed to a def of the program and called there -/
section
open LamX NdefX
variable {X : Cx} {pins : List (Addr × Obj)} {σ : L2.St} {H : Hp} {s : Shared}
/-- the lambda's words, the cells that it captured, its code object -/
abbrev lamF (X : Cx) (params : Arguments) (scope : Scope) (c' : Addr) : NF := ⟨"<lambda>", X.env.qual ++ "<lambda>", params, [], scope, cloFrom X.env.cells scope.names [], c'⟩
/-- what the cells held they hold still, over frames that are others -/
theorem cells_un {cl : List (Str × Addr)} {fr : List Str} {ws : List (Option V)} {fs : List Addr} {H HZ : Hp} {h hZ : Heap} (C : CellsAt cl fr ws h H) (un : Un fs [] H HZ h hZ) : CellsAt cl fr ws hZ HZ := by
  have kp : ∀ y c, cl.lookup y = some c → ∀ v, h.IsCell c v → hZ.IsCell c v := fun y c e v ⟨o, ho, hd⟩ => by
    obtain ⟨sl, q⟩ := un.any ho (C.all y c e).1 (by simp)
    exact ⟨_, q, hd⟩
  refine ⟨C.len, fun y c e => ?_, C.inj, fun i y e => ?_⟩
  · obtain ⟨n, v, z⟩ := C.all y c e
    refine ⟨?_, v, kp y c e v z⟩
    obtain ⟨o, ho, _⟩ := z
    exact un.free c o ho n (by simp)
  · obtain ⟨c, hc, hv⟩ := C.has i y e
    refine ⟨c, hc, fun v ev => ?_⟩
    obtain ⟨u, r, z⟩ := hv v ev
    exact ⟨u, r, kp y c hc _ z⟩
/-- a(e, ..), in the def that got the lambda: that def was entered at s -/
theorem pe_actN {Ng : List Str} {qg : Str} {sg : Scope} {g f c' : Addr} {cdg pm ctv : Value} {params : Arguments} {body : Expr} {scope : Scope} {k i : Nat} {a : Str} {tb : TE} {ta : TA} {e : Expr} {es : List Expr} {p1 p2 : Pos} {ps fr : List Str} {js : List Nat}
    (I : Inv X pins σ H s) (S : NScope (ps ++ fr) ps fr scope) (cp : Caps X (cloFrom X.env.cells scope.names []) fr js)
    (hf : s.heap.get? f = some (PySem.W.kla_obj "<lambda>" (X.env.qual ++ "<lambda>") params body scope (cloFrom X.env.cells scope.names []) pm c' ctv)) (hfn : H f = none) (hfr : f ∉ frs X.stack)
    (hbind : ∀ (q : Str) (cl : List (Str × Addr)) (pm cv ctv : Value) (us : List Value), us.length = ps.length → bindArgs (PySem.W.kla_fn "<lambda>" q params body scope cl pm cv ctv) ⟨us, []⟩ = pure (ps.zip us))
    (hr : Room (k + 1) (X.A.deeper (envOfC qg sg s.heap.objs.size g cdg)))
    (hbody : ∀ (A : Around) (outer : List Env) (s : Shared) (H : Hp), Room k (A.deeper (envF (lamF X params scope c') f s.heap.objs.size)) → PE (ncx C8.CX0 X.prog X.w X.K X.mg X.base (ps ++ fr) (lamF X params scope c') f A outer s H C8.E0) body tb)
    (hN : Ng[i]? = some a) (hv : Vis sg a) (ha : PA (cxOf C8.CX0 X.prog X.w X.K X.mg X.base Ng qg sg g cdg X.A X.stack s H C8.E0).nox (e :: es) ta) (hd : (a == ("__debug__" : Str)) = false := by decide) (hcd : (a == ("__classdict__" : Str)) = false := by decide)
    (he : starEach (e :: es) (envOfC qg sg s.heap.objs.size g cdg) = (false, eval e (envOfC qg sg s.heap.objs.size g cdg)) :: starEach es (envOfC qg sg s.heap.objs.size g cdg) := by rfl) (hpl : (backTo p2 (starEach es (envOfC qg sg s.heap.objs.size g cdg))).any (·.1) = false := by rfl) :
    PE (cxOf C8.CX0 X.prog X.w X.K X.mg X.base Ng qg sg g cdg X.A X.stack s H C8.E0).nox (.Call (.Name a p1) (e :: es) [] p2)
      (fun σZ HZ Q => σZ[i]? = some (some (.ref f)) ∧ ta σZ HZ fun vs H1 => H1 c' = some (CodeO c' (X.env.qual ++ "<lambda>")) ∧ vs.length = ps.length ∧ tb (startF (ps ++ fr) vs (js.map (slotAt σ))) H1 Q) := by
  refine ⟨fun pinsZ sZ σZ HZ Q IZ h => ?_⟩
  obtain ⟨hs, ht⟩ := h
  refine wpAny_Call_Name_kw (thn ((pe_var (pos := p1) (i := i) hN hv hd hcd).run pinsZ sZ σZ HZ (fun v H1 => v = .ref f ∧ H1 = HZ) IZ ⟨.ref f, hs, rfl, rfl⟩) fun u s1 z => ?_)
  obtain ⟨v, H1, I1, r1, rfl, rfl⟩ := z
  obtain rfl : u = Value.ref f := r1
  have of1 := I1.base.keep f _ hf hfn hfr (fun z => nomatch (show f ∈ ([] : List Addr) from z))
  refine PySem.W.callWith_F (first := []) ⟨_, _, _, _, of1⟩ (thn (ha.run p2 pinsZ s1 σZ H1 _ I1 ht) fun us s2 z => ?_) he hpl
  obtain ⟨vs, H2, I2, r, hc, hl, hq⟩ := z
  have of2 := I2.base.keep f _ hf hfn hfr (fun z => nomatch (show f ∈ ([] : List Addr) from z))
  refine ⟨⟨_, _, _, _, of2⟩, ?_⟩
  show wpAny _ _ (call (.ref f) us) _ _ _
  have un : Un (frs X.stack) [] H H2 s.heap s2.heap := I2.base
  obtain ⟨⟨oc, vz, t, hoc, hdc, hvc⟩, _, _⟩ := I2.hok c' _ hc
  have C := cells_un (cells_of I cp) un
  have rc : codeAny (model X.prog X.w) (X.A.deeper (envOfC qg sg s.heap.objs.size g cdg)) (.call (.ref f) ⟨us, []⟩) (CR C8.CX0 (envOfC qg sg s.heap.objs.size g cdg :: X.stack) X.prog X.w H2 s2 Q C8.E0) s2 := by
    refine PySem.W.kla_callFunE hr.depth of2 rfl S.co S.gen rfl ⟨c', oc, vz, t, rfl, hoc, hdc, hvc⟩ ?_
    rw [hbind _ _ _ _ _ us (by rw [← r.length]; exact hl)]
    refine wpAny_pure (wpAny_newFunctionEnv S.nocell (fun ⟨n, _⟩ hy => S.par n (List.of_mem_zip hy).1) (fun h₁ hns hsb => ⟨I2.nolimit.fresh _ hsb, ?_⟩) S.kind)
    show codeAny _ _ (.expr body (envF (lamF X params scope c') f s2.heap.objs.size)) _ _
    have kp : ∀ b o, s2.heap.get? b = some o → h₁.get? b = some o := fun b o e => hsb.extBut b o (Nat.ne_of_lt (Heap.lt_size e)) (Heap.get?_push_of_some _ e)
    have J : Inv (ncx C8.CX0 X.prog X.w X.K X.mg X.base (ps ++ fr) (lamF X params scope c') f _ _ s2 H2 C8.E0) [] (startF (ps ++ fr) vs (js.map (slotAt σ))) H2 { s2 with heap := h₁, toks := s2.toks + (ps.zip us).length } := inv_startN (F := lamF X params scope c') S hr.hd I2.env0 hl r C hns kp
    refine PySem.W.kla_codeExpr (wpAny_mono ((hbody _ _ s2 H2 (hr.deeper _)).run [] _ _ H2 Q J hq) (fun v s' hq => ?_) fun e s' hq => hq)
    obtain ⟨w', H', J', rv, q⟩ := hq
    exact ⟨w', H', J'.os, J'.bare, J'.base, J'.hok, rv, q⟩
  refine wpAny_call (codeAny_mono rc fun r s' hq => ?_)
  cases r with
  | error e => exact (show False from hq).elim
  | ok fl =>
    cases fl with
    | ret u => exact I2.after hq
    | next => exact False.elim hq
    | brk => exact False.elim hq
    | cont => exact False.elim hq
end
/-! ### lambdas, with defaults or without, kept as values and called by _law_tried -/
section
open LamX NdefX
/-- the words of a lambda, the cells that it captured, its code object, its defaults -/
structure LF where
  qual : Str
  params : Arguments
  body : Expr
  scope : Scope
  cl : List (Str × Addr)
  c : Addr
  dV : Value
abbrev LF.fd (L : LF) (doc pm ctv : Value) : FuncData := PySem.W.kdv_fn "<lambda>" L.qual L.params (.expr L.body) L.scope L.cl L.dV doc pm (.ref L.c) ctv
abbrev LF.nf (L : LF) : NF := ⟨"<lambda>", L.qual, L.params, [], L.scope, L.cl, L.c⟩
def LamO (f : Addr) (L : LF) : HO := .ext fun h => ∃ (od : Option Addr) (sl : Array (Option Value)) (doc pm ctv : Value), h.get? f = some (⟨.type "function", od, .func (L.fd doc pm ctv), sl⟩ : Obj)
theorem lamO_ne {f : Addr} {L : LF} (ps : Array Value) : LamO f L ≠ .tbl ps := fun z => by
  unfold LamO at z
  cases z
/-- its defaults: none, or a tuple of whole numbers -/
def Dflts (H : Hp) (dV : Value) (ds : List Int) : Prop := (ds = [] ∧ dV = .none) ∨ (ds ≠ [] ∧ ∃ t, dV = .ref t ∧ H t = some (.tup (ds.map V.int)))
theorem Dflts.ext {H H' : Hp} {dV : Value} {ds : List Int} (h : Dflts H dV ds) (e : ExtN H H') : Dflts H' dV ds := by
  rcases h with h | ⟨n, t, e1, e2⟩
  · exact .inl h
  · exact .inr ⟨n, t, e1, e _ _ e2 (fun _ z => nomatch z)⟩
section
variable {X : Cx} {pins : List (Addr × Obj)} {σ : L2.St} {H : Hp} {s : Shared}
theorem inv_lam {L : LF} {t' : Nat} {doc pm ctv : Value} (I : Inv X pins σ H s) :
    Inv X pins σ (upd H s.heap.objs.size (LamO s.heap.objs.size L)) { s with heap := s.heap.push { cls := .type "function", data := .func (L.fd doc pm ctv) }, toks := t' } := by
  refine I.laid (fun b u e => Heap.get?_push_of_some _ e) (Nat.le_refl _) ?_
  have e : (s.heap.push ({ cls := .type "function", data := .func (L.fd doc pm ctv) } : Obj)).get? s.heap.objs.size = some ({ cls := .type "function", data := .func (L.fd doc pm ctv) } : Obj) := Heap.get?_push_size _ rfl
  exact ⟨⟨_, _, doc, pm, ctv, e⟩, ⟨_, e⟩, fun h1 h2 ⟨od, sl, d, p, t, z⟩ st => ⟨od, sl, d, p, t, st _ z⟩⟩
abbrev lamL (X : Cx) (params : Arguments) (body : Expr) (scope : Scope) (c' : Addr) (dV : Value) : LF := ⟨X.env.qual ++ "<lambda>", params, body, scope, cloFrom X.env.cells scope.names [], c', dV⟩
theorem lam_tail {T : List (Addr × Str)} {c P : Addr} {params : Arguments} {body : Expr} {scope : Scope} {pos : Pos} {dV : Value} {E : Value → Shared → Prop} {Q : Value → Shared → Prop} (I : Inv X pins σ H s) (tab : TabB X.base X.mg c P) (hcode : X.env.code = .ref c)
    (hm : (P, X.env.qual ++ "<lambda>") ∈ T) (hu : ∀ p ∈ T, p.1 = P → p.2 = X.env.qual ++ "<lambda>") (hT : Tabs T H) (hfree : ∀ y ∈ scope.names, y.2 = .free → ∃ c, X.env.cells.lookup y.1 = some c)
    (h : ∀ (f c' : Addr) (H1 : Hp) (s' : Shared), Inv X pins σ H1 s' → ExtN H H1 → Tabs T H1 → H1 f = some (LamO f (lamL X params body scope c' dV)) → H1 c' = some (CodeO c' (X.env.qual ++ "<lambda>")) → Q (.ref f) s') :
    wpAny (model X.prog X.w) X.A (makeTail "<lambda>" (X.env.qual ++ "<lambda>") params (.expr body) scope X.env dV .none none pos pos.line) Q E s := by
  obtain ⟨ps, hP, htr, hall⟩ := hT _ hm
  have bP : s.heap.BuiltinsAt X.mg P := tab.bm.keeps I.bk
  have gP : s.heap.get? P = some { cls := .none, data := .fields ps } := I.hok P _ hP
  cases known : codeAmong pos ps.toList with
  | none =>
    refine PySem.W.kdv_makeTail (mg := X.mg) (c := c) (P := P) (ps := ps) (closure_ok hfree) I.ok.glob (I.mod.glob.keeps I.bk) hcode (tab.code.keeps I.bk) gP htr known tab.gP bP fun c' ctv doc h' tk hx ge lt hrec htb => ?_
    obtain ⟨c2, oc, vs, t, e2, hoc, hd, hv⟩ := hrec
    cases e2
    have fresh : H c' = none := I.hok.fresh ge
    have I1 := inv_table (t' := tk) (more := #[rawInt pos.line, rawInt pos.col, .ref c']) (h' := h') I hP (fun b o hb e => hx b o hb e) htb ge ⟨oc, vs, t, hoc, hd, hv⟩
    have ext1 : ExtN H (upd (upd H P (.tbl (ps ++ #[rawInt pos.line, rawInt pos.col, .ref c']))) c' (CodeO c' (X.env.qual ++ "<lambda>"))) := fun b o e n => by
      have nP : b ≠ P := fun z => n ps (Option.some.inj (e.symm.trans (by rw [z]; exact hP)))
      rw [upd_ne (ne_of_none e fresh), upd_ne nP]
      exact e
    have lst : (ps ++ #[rawInt pos.line, rawInt pos.col, .ref c']).toList = ps.toList ++ [rawInt pos.line, rawInt pos.col, .ref c'] := by simp
    have tabs1 : Tabs T (upd (upd H P (.tbl (ps ++ #[rawInt pos.line, rawInt pos.col, .ref c']))) c' (CodeO c' (X.env.qual ++ "<lambda>"))) := fun p hp => by
      by_cases hb : p.1 = P
      · rw [hu p hp hb, hb]
        refine ⟨_, by rw [upd_ne (ne_of_none hP fresh), upd_same], by rw [lst]; exact PySem.TriplesOk_snoc _ _ _ _ htr, fun p' cv hcv => ?_⟩
        rw [lst] at hcv
        rcases among_app _ htr hcv with z | z
        · obtain ⟨c0, e1, e2⟩ := hall p' cv z
          exact ⟨c0, e1, ext1 _ _ e2 codeO_ne⟩
        · exact ⟨c', z, upd_same⟩
      · obtain ⟨ps', a1, a2, a3⟩ := hT p hp
        refine ⟨ps', by rw [upd_ne (ne_of_none a1 fresh), upd_ne hb]; exact a1, a2, fun p' cv hcv => ?_⟩
        obtain ⟨c0, e1, e2⟩ := a3 p' cv hcv
        exact ⟨c0, e1, ext1 _ _ e2 codeO_ne⟩
    have nf := I1.hok.fresh (Nat.le_refl _)
    have I2 := inv_lam (L := lamL X params body scope c' dV) (t' := tk) (doc := doc) (pm := (X.mg "__name__").getD .none) (ctv := ctv) I1
    refine h h'.objs.size c' _ _ I2 (fun b o e n => ?_) (tabs1.ext fun b o e => ?_) upd_same ?_
    · have e1 := ext1 b o e n
      exact (upd_ne (ne_of_none e1 nf)).trans e1
    · exact (upd_ne (ne_of_none e nf)).trans e
    · exact (upd_ne (Nat.ne_of_lt lt)).trans upd_same
  | some cv =>
    obtain ⟨c', rfl, hco⟩ := hall pos cv known
    refine PySem.W.kdv_makeTailHit (mg := X.mg) (c := c) (P := P) (ps := ps) (closure_ok hfree) I.ok.glob (I.mod.glob.keeps I.bk) hcode (tab.code.keeps I.bk) gP htr known bP fun ctv doc h' tk hx hsz => ?_
    have I1 : Inv X pins σ H { s with heap := h', toks := tk } := I.kept hx
    have nf : H h'.objs.size = none := I1.hok.fresh (Nat.le_refl _)
    have I2 := inv_lam (L := lamL X params body scope c' dV) (t' := tk) (doc := doc) (pm := (X.mg "__name__").getD .none) (ctv := ctv) I1
    refine h h'.objs.size c' _ _ I2 (fun b o e n => ?_) (hT.ext fun b o e => ?_) upd_same ?_
    · exact (upd_ne (ne_of_none e nf)).trans e
    · exact (upd_ne (ne_of_none e nf)).trans e
    · exact (upd_ne (ne_of_none hco nf)).trans hco
end
/-- whole numbers as they are written -/
def Consts (X : Cx) : List Expr → List Int → Prop
  | [], [] => True
  | e :: es, d :: ds => PE X e (tC (.int d)) ∧ Consts X es ds
  | _, _ => False
theorem consts_eval {X : Cx} {pins : List (Addr × Obj)} {σ : L2.St} {H : Hp} : ∀ {es : List Expr} {ds : List Int} {s : Shared} {Q : List Value → Shared → Prop}, Consts X es ds → Inv X pins σ H s → (∀ us s1, Inv X pins σ H s1 → Vals (ds.map V.int) us → Q us s1) → wpAny (model X.prog X.w) X.A (evalAll (evalEach es X.env)) Q X.xe s
  | [], [], s, Q, _, I, h => PySem.W.kdv_all0 (h [] s I .nil)
  | [], _ :: _, _, _, c, _, _ => c.elim
  | _ :: _, [], _, _, c, _, _ => c.elim
  | e :: es, d :: ds, s, Q, c, I, h => by
    refine PySem.W.kdv_all1 (thn (c.1.run pins s σ H (fun v H1 => v = .int d ∧ H1 = H) I ⟨rfl, rfl⟩) fun u s1 z => ?_)
    obtain ⟨v, H1, I1, r1, rfl, rfl⟩ := z
    exact consts_eval c.2 I1 fun us s2 I2 r2 => h (u :: us) s2 I2 (.cons r1 r2)
/-- the reading of a lambda as a value -/
def tLamV (T : List (Addr × Str)) (mk : Addr → Value → LF) (ds : List Int) : TE := fun _ H Q => Tabs T H ∧ ∀ (f c' : Addr) (dV : Value) (H1 : Hp), ExtN H H1 → Tabs T H1 → Dflts H1 dV ds → H1 f = some (LamO f (mk c' dV)) → H1 c' = some (CodeO c' (mk c' dV).qual) → Q (.ref f) H1
section
variable {X : Cx}
theorem pe_lamv0 {T : List (Addr × Str)} {c P : Addr} {params : Arguments} {body : Expr} {scope : Scope} {pos : Pos} (tab : TabB X.base X.mg c P) (hcode : X.env.code = .ref c) (hm : (P, X.env.qual ++ "<lambda>") ∈ T) (hu : ∀ p ∈ T, p.1 = P → p.2 = X.env.qual ++ "<lambda>")
    (hfree : ∀ y ∈ scope.names, y.2 = .free → X.env.scope.names.lookup y.1 = some .cell ∨ X.env.scope.names.lookup y.1 = some .free) (hdef : defaultsOf params X.env = ([], [])) :
    PE X (.Lambda params body scope pos) (tLamV T (lamL X params body scope) []) := by
  refine ⟨fun pins s σ H Q I h => ?_⟩
  obtain ⟨hT, h⟩ := h
  have hf : ∀ y ∈ scope.names, y.2 = .free → ∃ c, X.env.cells.lookup y.1 = some c := fun y hy e => (hfree y hy e).elim (fun z => I.ok.has _ (.inl z)) fun z => I.ok.has _ (.inr z)
  refine PySem.W.kla_eval hdef ?_
  rw [makeFunction_eq]
  simp only [List.zip_nil_right, List.filterMap_nil, List.isEmpty_nil, if_true, pure_bind]
  exact lam_tail I tab hcode hm hu hT hf fun f c' H1 s' I1 e1 t1 h1 h2 => ⟨.ref f, H1, I1, rfl, h f c' .none H1 e1 t1 (.inl ⟨rfl, rfl⟩) h1 h2⟩
theorem pe_lamvD {T : List (Addr × Str)} {c P : Addr} {params : Arguments} {body : Expr} {scope : Scope} {pos : Pos} {ds : List Int} (tab : TabB X.base X.mg c P) (hcode : X.env.code = .ref c) (hm : (P, X.env.qual ++ "<lambda>") ∈ T) (hu : ∀ p ∈ T, p.1 = P → p.2 = X.env.qual ++ "<lambda>")
    (hfree : ∀ y ∈ scope.names, y.2 = .free → X.env.scope.names.lookup y.1 = some .cell ∨ X.env.scope.names.lookup y.1 = some .free) (hd0 : params.defaults.isEmpty = false) (hk0 : params.kw_defaults = []) (hne : ds ≠ []) (hlen : ds.length ≤ sizeLine) (hc : Consts X params.defaults ds) :
    PE X (.Lambda params body scope pos) (tLamV T (lamL X params body scope) ds) := by
  refine ⟨fun pins s σ H Q I h => ?_⟩
  obtain ⟨hT, h⟩ := h
  have hf : ∀ y ∈ scope.names, y.2 = .free → ∃ c, X.env.cells.lookup y.1 = some c := fun y hy e => (hfree y hy e).elim (fun z => I.ok.has _ (.inl z)) fun z => I.ok.has _ (.inr z)
  refine PySem.W.kdv_lam hd0 hk0 (consts_eval hc I fun us s1 I1 r1 => ?_)
  have une : us.isEmpty = false := by
    cases us with
    | nil =>
      have := r1.length
      rw [List.length_map] at this
      exact absurd (List.eq_nil_of_length_eq_zero this) hne
    | cons _ _ => rfl
  rw [makeFunction_eq]
  simp only [List.zip_nil_right, List.filterMap_nil, List.isEmpty_nil, if_true, pure_bind, une, Bool.false_eq_true, if_false]
  refine wpAny_bind (wpAny_newTextTuple ?_)
  have nt := I1.hok.fresh (Nat.le_refl _)
  have I2 : Inv X pins σ (upd H s1.heap.objs.size (.tup (ds.map V.int))) { s1 with heap := s1.heap.push { cls := .type "tuple", data := .seq us.toArray } } :=
    I1.laid (t' := s1.toks) (fun b u e => Heap.get?_push_of_some _ e) (Nat.le_refl _) ⟨by rw [List.length_map]; exact hlen, us, r1, ⟨_, Heap.get?_push_size _ rfl, rfl, _, rfl⟩⟩
  have e2 : Same H (upd H s1.heap.objs.size (.tup (ds.map V.int))) := same_upd nt
  refine lam_tail I2 tab hcode hm hu (hT.ext e2) hf fun f c' H1 s' I3 e3 t3 h1 h2 => ⟨.ref f, H1, I3, rfl, h f c' _ H1 ((ExtN.of e2).trans e3) t3 (.inr ⟨hne, _, rfl, e3 _ _ upd_same (fun _ z => nomatch z)⟩) h1 h2⟩
end
/-! ### the call -/
/-- what a call without arguments binds -/
def Binds0 (mk : Addr → Value → LF) (ps : List Str) : Prop := (ps = [] ∧ ∀ (c' : Addr) (doc pm ctv : Value), bindArgs ((mk c' .none).fd doc pm ctv) ⟨[], []⟩ = pure []) ∨
  (ps ≠ [] ∧ ∀ (c' : Addr) (dV doc pm ctv : Value) (us : List Value), us.length = ps.length → ∃ k, bindArgs ((mk c' dV).fd doc pm ctv) ⟨[], []⟩ = seqItems? dV >>= k ∧ k (some us.toArray) = pure (ps.zip us))
/-- a(), in a def entered at s0, a holding a lambda -/
theorem pe_actV {P : Program} {w : World} {K : PySem.W.Frag} {mg : Str → Option Value} {base : Heap} {CXg : CXT} {Eg : XK} {Ng : List Str} {qg : Str} {sg : Scope} {g f c' : Addr} {cdg dV : Value} {mk : Addr → Value → LF} {k i : Nat} {a : Str} {pn : List (Addr × Obj)} {xe : Value → Shared → Prop} {W : WX} {E : XK} {tb : TE} {p1 p2 : Pos}
    {A' : Around} {outer' : List Env} {s0 : Shared} {H0 : Hp} {ps fr : List Str} {ws : List (Option V)} {ds : List Int} (S : NScope (ps ++ fr) ps fr (mk c' dV).scope) (C : CellsAt (mk c' dV).cl fr ws s0.heap H0) (hc0 : (mk c' dV).c = c') (hd0 : (mk c' dV).dV = dV) (hb : Binds0 mk ps) (hl : ds.length = ps.length)
    (tk : Takes ((cxOf CXg P w K mg base Ng qg sg g cdg A' outer' s0 H0 Eg).tr pn xe) W) (hW : ∀ cls d σ' H', E cls d H' → W cls d σ' H') (hr : Room (k + 1) (A'.deeper (envOfC qg sg s0.heap.objs.size g cdg)))
    (hbody : ∀ (A : Around) (outer : List Env) (s : Shared) (H : Hp), Room k (A.deeper (envF (mk c' dV).nf f s.heap.objs.size)) → PE (ncx (L2.CX P w) P w K mg base (ps ++ fr) (mk c' dV).nf f A outer s H E) (mk c' dV).body tb)
    (hN : Ng[i]? = some a) (hv : Vis sg a) (hd : (a == ("__debug__" : Str)) = false := by decide) (hcd : (a == ("__classdict__" : Str)) = false := by decide) :
    PE ((cxOf CXg P w K mg base Ng qg sg g cdg A' outer' s0 H0 Eg).tr pn xe) (.Call (.Name a p1) [] [] p2)
      (fun σZ HZ Q => σZ[i]? = some (some (.ref f)) ∧ HZ c' = some (CodeO c' (mk c' dV).qual) ∧ HZ f = some (LamO f (mk c' dV)) ∧ Dflts HZ dV ds ∧ tb (startF (ps ++ fr) (ds.map V.int) ws) HZ Q) := by
  refine ⟨fun pinsZ sZ σZ HZ Q IZ h => ?_⟩
  obtain ⟨hs, hc, hf, hdf, ht⟩ := h
  refine wpAny_Call_Name_kw (thn ((pe_var (pos := p1) (i := i) hN hv hd hcd).run pinsZ sZ σZ HZ (fun v H1 => v = .ref f ∧ H1 = HZ) IZ ⟨.ref f, hs, rfl, rfl⟩) fun u s1 z => ?_)
  obtain ⟨v, H1, I1, r1, rfl, rfl⟩ := z
  obtain rfl : u = Value.ref f := r1
  obtain ⟨⟨od, sl, doc, pm, ctv, of1⟩, _, _⟩ := I1.hok f _ hf
  refine PySem.W.callWith_F0 ⟨_, _, _, _, of1⟩ ?_
  obtain ⟨⟨oc, vz, t, hoc, hdc, hvc⟩, _, _⟩ := I1.hok c' _ hc
  have CZ := cells_un C (show Un (frs outer') [] H0 H1 s0.heap s1.heap from I1.base)
  have hx : Passes (L2.CX P w) ((cxOf CXg P w K mg base Ng qg sg g cdg A' outer' s0 H0 Eg).tr pn xe) E := passes_call tk hW
  obtain ⟨us, rv, bt⟩ : ∃ us, Vals (ds.map V.int) us ∧ BindsTo s1 ((mk c' dV).fd doc pm ctv) ⟨[], []⟩ (ps.zip us) := by
    rcases hdf with ⟨rfl, rfl⟩ | ⟨hne, t, rfl, htp⟩
    · have hp : ps = [] := List.eq_nil_of_length_eq_zero hl.symm
      rcases hb with ⟨_, e⟩ | ⟨n, _⟩
      · subst hp
        exact ⟨[], .nil, BindsTo.of_eq (e c' doc pm ctv)⟩
      · exact absurd hp n
    · obtain ⟨us, rv, ⟨ol, hol, _, nl, hdl⟩, _⟩ := I1.tuple (SqT.of htp)
      have ul : us.length = ps.length := by rw [← rv.length, List.length_map]; exact hl
      rcases hb with ⟨hp, _⟩ | ⟨_, e⟩
      · subst hp
        exact absurd (List.eq_nil_of_length_eq_zero hl) hne
      · obtain ⟨k', e1, e2⟩ := e c' (.ref t) doc pm ctv us ul
        exact ⟨us, rv, BindsTo.of_defaults (T := t) hd0 hol hdl (by show bindArgs _ _ = seqItems? (mk c' (.ref t)).dV >>= _; rw [hd0]; exact e1) e2⟩
  have rc : codeAny (model P w) (A'.deeper (envOfC qg sg s0.heap.objs.size g cdg)) (.call (.ref f) ⟨[], []⟩) (CR (L2.CX P w) (envOfC qg sg s0.heap.objs.size g cdg :: outer') P w H1 s1 Q E) s1 := by
    refine PySem.W.kla_callFunE hr.depth of1 rfl S.co S.gen rfl (by show s1.heap.CodeRec (.ref (mk c' dV).c) _; rw [hc0]; exact ⟨c', oc, vz, t, rfl, hoc, hdc, hvc⟩) (bt _ _ _ _ ?_)
    refine wpAny_newFunctionEnv S.nocell (fun ⟨n, _⟩ hy => S.par n (List.of_mem_zip hy).1) (fun h₁ hns hsb => ⟨I1.nolimit.fresh _ hsb, ?_⟩) S.kind
    show codeAny _ _ (.expr (mk c' dV).body (envF (mk c' dV).nf f s1.heap.objs.size)) _ _
    have kp : ∀ b o, s1.heap.get? b = some o → h₁.get? b = some o := fun b o e => hsb.extBut b o (Nat.ne_of_lt (Heap.lt_size e)) (Heap.get?_push_of_some _ e)
    have J : Inv (ncx (L2.CX P w) P w K mg base (ps ++ fr) (mk c' dV).nf f _ _ s1 H1 E) [] (startF (ps ++ fr) (ds.map V.int) ws) H1 { s1 with heap := h₁, toks := s1.toks + (ps.zip us).length } := inv_startN (F := (mk c' dV).nf) S hr.hd I1.env0 (by rw [List.length_map]; exact hl) rv CZ hns kp
    refine PySem.W.kla_codeExpr (wpAny_mono ((hbody _ _ s1 H1 (hr.deeper _)).run [] _ _ H1 Q J ht) (fun v s' hq => ?_) fun e s' hq => hq)
    obtain ⟨w', H', J', rv, q⟩ := hq
    exact ⟨w', H', J'.os, J'.bare, J'.base, J'.hok, rv, q⟩
  refine wpAny_call (codeAny_mono rc fun r s' hq => ?_)
  cases r with
  | error e => exact hx pinsZ σZ H1 s1 e s' I1 hq
  | ok fl =>
    cases fl with
    | ret u => exact I1.after hq
    | next => exact False.elim hq
    | brk => exact False.elim hq
    | cont => exact False.elim hq
end
/-! ### the __init__s of the refusals -/
theorem ws_0 {ws : List V} (h : ws.length = 0) : ws = [] := List.length_eq_zero_iff.mp h
theorem ws_1 {ws : List V} (h : ws.length = 1) : ∃ a, ws = [a] := match ws, h with | [a], _ => ⟨a, rfl⟩
theorem ws_2 {ws : List V} (h : ws.length = 2) : ∃ a b, ws = [a, b] := match ws, h with | [a, b], _ => ⟨a, b, rfl⟩
abbrev sI_TearError : Stmt := inClass (topS 2) 0
theorem scI_TearError : FnScope ["self", "word"] ["self", "word"] (defScope sI_TearError) := ⟨rfl, rfl, rfl, by decide +kernel, rfl, by decide +kernel, by decide +kernel⟩
theorem okI_TearError {P : Program} {w : World} {K : PySem.W.Frag} {mg : Str → Option Value} {base : Heap} {f : Addr} {fd : FuncData} {k : Nat} {ds : List V} (F : FunD K "__init__" "TearError.__init__" (defArgs sI_TearError) (defBody sI_TearError) (defScope sI_TearError) ds [] f fd) :
    FnOk P w K mg base CX0 (k + 1) f fd ["self", "word"] (spBase K) := by
  refine F.ok (CX := CX0) scI_TearError (fun vs H Q E h => ?_) (fun cdv A outer s H vs Q E hr h => ?_)
  · obtain ⟨a, C, y, rfl, _⟩ := h
    rfl
  · obtain ⟨a, C, y, rfl, T, hw, ha, q⟩ := h
    refine ⟨_, PSs.nox (pss_one (ps_gst (pv 0) (pv 1) rfl)), ?_⟩
    exact ⟨y, rfl, .ref a, rfl, a, C, rfl, T, hw, .inl ⟨ha, fun dx h1 h2 => q dx h1 h2⟩⟩
abbrev sI_Missing : Stmt := inClass (topS 26) 0
theorem scI_Missing : FnScope ["self", "word"] ["self", "word"] (defScope sI_Missing) := ⟨rfl, rfl, rfl, by decide +kernel, rfl, by decide +kernel, by decide +kernel⟩
theorem okI_Missing {P : Program} {w : World} {K : PySem.W.Frag} {mg : Str → Option Value} {base : Heap} {f : Addr} {fd : FuncData} {k : Nat} {ds : List V} (F : FunD K "__init__" "Missing.__init__" (defArgs sI_Missing) (defBody sI_Missing) (defScope sI_Missing) ds [] f fd) :
    FnOk P w K mg base CX0 (k + 1) f fd ["self", "word"] (spBase K) := by
  refine F.ok (CX := CX0) scI_Missing (fun vs H Q E h => ?_) (fun cdv A outer s H vs Q E hr h => ?_)
  · obtain ⟨a, C, y, rfl, _⟩ := h
    rfl
  · obtain ⟨a, C, y, rfl, T, hw, ha, q⟩ := h
    refine ⟨_, PSs.nox (pss_one (ps_gst (pv 0) (pv 1) rfl)), ?_⟩
    exact ⟨y, rfl, .ref a, rfl, a, C, rfl, T, hw, .inl ⟨ha, fun dx h1 h2 => q dx h1 h2⟩⟩
abbrev sI_OtherBook : Stmt := inClass (topS 10) 0
theorem scI_OtherBook : FnScope ["self"] ["self"] (defScope sI_OtherBook) := ⟨rfl, rfl, rfl, by decide +kernel, rfl, by decide +kernel, by decide +kernel⟩
theorem okI_OtherBook {P : Program} {w : World} {K : PySem.W.Frag} {mg : Str → Option Value} {base : Heap} {f C CB fB : Addr} {fd fdB : FuncData} {k : Nat} (F : Fun K "__init__" "OtherBook.__init__" sI_OtherBook f fd) (T : OexG K C) (hw : PySem.W.findIn K (.ref C) "word" = some none)
    (B : CFn K CB "__init__" fB) (GB : FnOk P w K mg base CX0 k fB fdB ["self", "word"] (spBase K)) (bB : Binds K fdB ["self", "word"] []) (mB : mg "TearError" = some (.ref CB)) :
    FnOk P w K mg base CX0 (k + 1) f fd ["self"] (spMade C 0 (fun ws => [("word", .str "OtherBook")])) := by
  refine F.ok scI_OtherBook (fun vs H Q E h => ?_) (fun cdv A outer s H vs Q E hr h => ?_)
  · obtain ⟨a, ws, rfl, hl, _⟩ := h
    rw [List.length_cons, hl]
    rfl
  · obtain ⟨a, ws, rfl, hl, ha, q⟩ := h
    obtain rfl := ws_0 hl
    refine ⟨_, pss_one (ps_expr (pe_cfn B GB hr bB .nil pass0 (by rfl) mB (pa_cons (pv 0) (pa_cons pe_str pa_nil)))), ?_⟩
    refine ⟨.ref a, rfl, a, C, _, rfl, T, hw, ha, fun dx h1 h2 => ?_⟩
    have nn : a ≠ dx := fun z => h2 z.symm
    refine q dx _ h1 h2 (fun b b1 b2 => ?_) upd_same ?_
    · rw [upd_ne b1, upd_ne b2]
    · rw [upd_ne h2, upd_same]
abbrev sI_NoFigure : Stmt := inClass (topS 28) 0
theorem scI_NoFigure : FnScope ["self", "figure"] ["self", "figure"] (defScope sI_NoFigure) := ⟨rfl, rfl, rfl, by decide +kernel, rfl, by decide +kernel, by decide +kernel⟩
theorem okI_NoFigure {P : Program} {w : World} {K : PySem.W.Frag} {mg : Str → Option Value} {base : Heap} {f C CB fB : Addr} {fd fdB : FuncData} {k : Nat} (F : Fun K "__init__" "NoFigure.__init__" sI_NoFigure f fd) (T : OexG K C) (hw : PySem.W.findIn K (.ref C) "word" = some none) (n_figure : PySem.W.findIn K (.ref C) "figure" = some none)
    (B : CFn K CB "__init__" fB) (GB : FnOk P w K mg base CX0 k fB fdB ["self", "word"] (spBase K)) (bB : Binds K fdB ["self", "word"] []) (mB : mg "Missing" = some (.ref CB)) :
    FnOk P w K mg base CX0 (k + 1) f fd ["self", "figure"] (spMade C 1 (fun ws => [("figure", ws.getD 0 .non), ("word", .str "NoFigure")])) := by
  refine F.ok scI_NoFigure (fun vs H Q E h => ?_) (fun cdv A outer s H vs Q E hr h => ?_)
  · obtain ⟨a, ws, rfl, hl, _⟩ := h
    rw [List.length_cons, hl]
    rfl
  · obtain ⟨a, ws, rfl, hl, ha, q⟩ := h
    obtain ⟨y0, rfl⟩ := ws_1 hl
    refine ⟨_, pss_cons (ps_expr (pe_cfn B GB hr bB .nil pass0 (by rfl) mB (pa_cons (pv 0) (pa_cons pe_str pa_nil)))) (pss_one (ps_gst (pv 0) (pv 1) rfl)), ?_⟩
    refine ⟨.ref a, rfl, a, C, _, rfl, T, hw, ha, fun dx h1 h2 => ?_⟩
    have nn : a ≠ dx := fun z => h2 z.symm
    refine ⟨y0, rfl, .ref a, rfl, a, C, rfl, T, n_figure, .inr ⟨dx, _, by rw [upd_same], by rw [upd_ne h2, upd_same], by simp, ?_⟩⟩
    refine q dx _ h1 h2 (fun b b1 b2 => ?_) ?_ ?_
    · rw [upd_ne b2, upd_ne b1, upd_ne b2]
    · rw [upd_ne nn, upd_same]
    · rw [upd_same]
      rfl
abbrev sI_NoPad : Stmt := inClass (topS 27) 0
theorem scI_NoPad : FnScope ["self", "pad"] ["self", "pad"] (defScope sI_NoPad) := ⟨rfl, rfl, rfl, by decide +kernel, rfl, by decide +kernel, by decide +kernel⟩
theorem okI_NoPad {P : Program} {w : World} {K : PySem.W.Frag} {mg : Str → Option Value} {base : Heap} {f C CB fB : Addr} {fd fdB : FuncData} {k : Nat} (F : Fun K "__init__" "NoPad.__init__" sI_NoPad f fd) (T : OexG K C) (hw : PySem.W.findIn K (.ref C) "word" = some none) (n_pad : PySem.W.findIn K (.ref C) "pad" = some none)
    (B : CFn K CB "__init__" fB) (GB : FnOk P w K mg base CX0 k fB fdB ["self", "word"] (spBase K)) (bB : Binds K fdB ["self", "word"] []) (mB : mg "Missing" = some (.ref CB)) :
    FnOk P w K mg base CX0 (k + 1) f fd ["self", "pad"] (spMade C 1 (fun ws => [("pad", ws.getD 0 .non), ("word", .str "NoPad")])) := by
  refine F.ok scI_NoPad (fun vs H Q E h => ?_) (fun cdv A outer s H vs Q E hr h => ?_)
  · obtain ⟨a, ws, rfl, hl, _⟩ := h
    rw [List.length_cons, hl]
    rfl
  · obtain ⟨a, ws, rfl, hl, ha, q⟩ := h
    obtain ⟨y0, rfl⟩ := ws_1 hl
    refine ⟨_, pss_cons (ps_expr (pe_cfn B GB hr bB .nil pass0 (by rfl) mB (pa_cons (pv 0) (pa_cons pe_str pa_nil)))) (pss_one (ps_gst (pv 0) (pv 1) rfl)), ?_⟩
    refine ⟨.ref a, rfl, a, C, _, rfl, T, hw, ha, fun dx h1 h2 => ?_⟩
    have nn : a ≠ dx := fun z => h2 z.symm
    refine ⟨y0, rfl, .ref a, rfl, a, C, rfl, T, n_pad, .inr ⟨dx, _, by rw [upd_same], by rw [upd_ne h2, upd_same], by simp, ?_⟩⟩
    refine q dx _ h1 h2 (fun b b1 b2 => ?_) ?_ ?_
    · rw [upd_ne b2, upd_ne b1, upd_ne b2]
    · rw [upd_ne nn, upd_same]
    · rw [upd_same]
      rfl
/-! ### the refusals by their numbers -/
def rNms : List Str := ["BadColours", "BadFigure", "Meeting", "TooMany", "TooFar", "BadOrder", "OtherColours", "OtherBook", "BadRow", "BadNote", "BadBeneath", "Full", "NoEnd", "NotStanding", "NeverClear", "BadDeed", "BadNumber", "NoBeginning", "Barred", "BadHeights", "BadWeights", "NoMean", "BadText", "NoPad", "NoFigure", "NoNote", "NothingBack", "NothingAgain"]
def rFls : List (List Str) := [["at"], ["at"], ["one", "other"], ["most"], ["most"], [], [], [], ["at"], ["note"], [], ["pad"], ["pad"], ["figure"], ["pad"], [], ["number"], [], ["pad"], ["at"], ["at"], [], ["at"], ["pad"], ["figure"], ["depth"], [], []]
def rNm (i : Nat) : Str := rNms.getD i ""
def rFl (i : Nat) : List Str := rFls.getD i []
/-- the fields of the refusal i with these values -/
def rFs (i : Nat) (ws : List V) : List (Str × V) := ((rFl i).zip ws).reverse ++ [(("word" : Str), V.str (rNm i))]
structure RefsT (K : PySem.W.Frag) (mg : Str → Option Value) (cm : Nat → Addr) : Prop where
  mgC : ∀ i, i < 28 → mg (rNm i) = some (.ref (cm i))
  xf : ∀ i, i < 28 → XfC K (cm i)
  nw : ∀ i, i < 28 → ∀ f ∈ ("word" : Str) :: rFl i, PySem.W.findIn K (.ref (cm i)) f = some none
  sub : ∀ i j, i < 28 → j < 28 → PySem.W.exmOne K (.ref (cm i)) (.ref (cm j)) = some (decide (i = j))
theorem RefsT.any {K : PySem.W.Frag} {mg : Str → Option Value} {cm : Nat → Addr} (T : RefsT K mg cm) {i : Nat} (hi : i < 28) : ∀ (js : List Nat), (∀ j ∈ js, j < 28) → PySem.W.exmAny K (.ref (cm i)) (js.map fun j => .ref (cm j)) = some (js.any fun j => decide (i = j)) := by
  intro js
  induction js with
  | nil => exact fun _ => rfl
  | cons j r ih =>
    intro h
    have a := T.sub i j hi (h j (List.mem_cons_self ..))
    have b := ih fun x hx => h x (List.mem_cons_of_mem _ hx)
    show PySem.W.exmAny K (.ref (cm i)) (.ref (cm j) :: r.map fun j => .ref (cm j)) = _
    unfold PySem.W.exmAny
    rw [a, b]
    rfl
theorem nmT {X : Cx} {K : PySem.W.Frag} {cm : Nat → Addr} {i : Nat} (T : RefsT K X.mg cm) (hi : i < 28) (hg : Gl X (rNm i)) (hd : (rNm i == ("__debug__" : Str)) = false) : Names X (rNm i) (.ref (cm i)) := ⟨hg, hd, .inl (T.mgC i hi)⟩
/-- e.f in an except suite, e a refusal of whatever class -/
def tXfr (K : PySem.W.Frag) (a : Addr) (cls : Value) (d : Option Addr) (f : Str) (te : TE) : TE := fun σ H Q => te σ H fun x H1 => ∃ (C dd : Addr) (fs : List (Str × V)) (v : V), x = .ref a ∧ cls = .ref C ∧ XfC K C ∧ PySem.W.findIn K (.ref C) f = some none ∧ d = some dd ∧ H1 dd = some (.xd fs) ∧ fs.lookup f = some v ∧ Q v H1
theorem pe_xfr {X : Cx} {a : Addr} {oe : Obj} {cls : Value} {d : Option Addr} {pn : List (Addr × Obj)} {e : Expr} {te : TE} {pos : Pos} {f : Str} (hz : Zc cls d oe) (hf : ∃ vs, oe.data = .fields vs) (he : PE (X.suite a ((a, oe) :: pn)) e te)
    (hb : attributeBase e f X.env (eval e X.env) = eval e X.env := by rfl) : PE (X.suite a ((a, oe) :: pn)) (.Attribute e f pos) (tXfr X.K a cls d f te) := by
  refine ⟨fun pins s σ H Q I h => ?_⟩
  refine attr_of hb (thn (he.run pins s σ H _ I h) fun u s1 hh => ?_)
  obtain ⟨x, H1, I1, rx, C, dd, fs, v, rfl, rfl, T, hno, rfl, ea, l, q⟩ := hh
  obtain rfl : u = Value.ref a := rx
  obtain ⟨ha, _⟩ := I1.pin (a, oe) (List.mem_append_left _ List.mem_cons_self)
  obtain ⟨vs, hd⟩ := hf
  have hx : ObjOk X.prog X.w H1 s1.heap dd (.xd fs) := I1.hok dd _ ea
  obtain ⟨mA, hns, hr⟩ := hx
  obtain ⟨od, ho, hl⟩ := lookIn_ns hns
  obtain ⟨u, hu, ru⟩ := RelO.some_of (v := v) (o := mA f) (by rw [← l]; exact hr f)
  have J : PySem.W.InstAt s1.heap a oe C (some od) := ⟨ha, hz.1, by unfold PySem.W.notCls; rw [hd] <;> rfl, by rw [hz.2]; exact ho⟩
  exact HandSPX.exc_get I1.kIn J T.ga T.gg T.exC (PySem.W.findObj_own T.hdC hno rfl (by rw [hl, hu])) (handed_of ru) ⟨v, H1, I1.tok _, ru, q⟩
theorem takes_len {X : Cx} {W : WX} (t : Takes X W) : Takes X (fun cls d σ H => σ.length = X.N.length → W cls d σ H) := fun u s' x => by
  obtain ⟨a, B, sI, pins, σ, H, cls, d, e, I, nb, up, sky, na, os, ag, w⟩ := x
  exact t u s' ⟨a, B, sI, pins, σ, H, cls, d, e, I, nb, up, sky, na, os, ag, w I.len⟩
/-- what _law_tried makes of the lambda's reading -/
def TTried (cm : Nat → Addr) : (XK → Hp → VK → Prop) → Hp → VK → Prop := fun tl H Q =>
  tl (fun cls d H' => ∃ (i : Nat) (ws : List V) (dd : Addr), i < 28 ∧ cls = .ref (cm i) ∧ d = some dd ∧ ws.length = (rFl i).length ∧ H' dd = some (.xd (rFs i ws)) ∧ ∀ p, H' p = none → Q (.ref p) (upd H' p (.tup (.str (rNm i) :: ws)))) H
    (fun v H1 => (2 : Nat) ≤ sizeLine ∧ ∀ p, H1 p = none → Q (.ref p) (upd H1 p (.tup [.str "told", v])))
abbrev sTried : Stmt := topS 64
abbrev nTried : List Str := ["_law_act", "e"]
theorem scTried : FnScope nTried ["_law_act"] (defScope sTried) := ⟨rfl, rfl, rfl, by decide +kernel, rfl, by decide +kernel, by decide +kernel⟩
theorem tried_gives {X : Cx} {cm : Nat → Addr} {g : Addr} {cdg : Value} {q : Str} (T : RefsT X.K X.mg cm) : LamX.GivesTo X nTried "_law_tried" (defScope sTried) g cdg (defBody sTried) "_law_act" q (TTried cm) := by
  intro f c' s H Q tl act hc h
  refine ⟨_, pss_one (ps_try_asN (X := (cxOf C8.CX0 X.prog X.w X.K X.mg X.base nTried "_law_tried" (defScope sTried) g cdg X.A X.stack s H C8.E0).nox) (i := 1) (n := "e")
      (tb := fun W D σ H => ∃ Ech : XK, (∀ cls d (σ' : L2.St) H', Ech cls d H' → σ'.length = 2 → W cls d σ' H') ∧ σ[0]? = some (some (.ref f)) ∧ H c' = some (LamX.CodeO c' q) ∧ tl Ech H (fun v H1 => (2 : Nat) ≤ sizeLine ∧ ∀ p, H1 p = none → D.rt (.ref p) (upd H1 p (.tup [.str "told", v]))))
      rfl rfl scTried.nd rfl rfl LamX.takes0 (fun W pn xe tk _ => ?_)
      (.cons (.tup (.cons (nmT (i := 0) T (by decide) (by rfl) (by decide)) (.cons (nmT (i := 1) T (by decide) (by rfl) (by decide)) (.cons (nmT (i := 8) T (by decide) (by rfl) (by decide)) (.cons (nmT (i := 19) T (by decide) (by rfl) (by decide)) (.cons (nmT (i := 20) T (by decide) (by rfl) (by decide)) (.cons (nmT (i := 22) T (by decide) (by rfl) (by decide)) .nil)))))) (by simp)) (fun a oe cls d pn hz hf => pss_one (ps_ret (pe_tup (pa_cons (pe_xfr hz hf (pv 1)) (pa_cons (pe_xfr hz hf (pv 1)) pa_nil)))))
        (.cons (.one (nmT (i := 2) T (by decide) (by rfl) (by decide))) (fun a oe cls d pn hz hf => pss_one (ps_ret (pe_tup (pa_cons (pe_xfr hz hf (pv 1)) (pa_cons (pe_xfr hz hf (pv 1)) (pa_cons (pe_xfr hz hf (pv 1)) pa_nil))))))
        (.cons (.tup (.cons (nmT (i := 3) T (by decide) (by rfl) (by decide)) (.cons (nmT (i := 4) T (by decide) (by rfl) (by decide)) .nil)) (by simp)) (fun a oe cls d pn hz hf => pss_one (ps_ret (pe_tup (pa_cons (pe_xfr hz hf (pv 1)) (pa_cons (pe_xfr hz hf (pv 1)) pa_nil)))))
        (.cons (.one (nmT (i := 9) T (by decide) (by rfl) (by decide))) (fun a oe cls d pn hz hf => pss_one (ps_ret (pe_tup (pa_cons (pe_xfr hz hf (pv 1)) (pa_cons (pe_xfr hz hf (pv 1)) pa_nil)))))
        (.cons (.tup (.cons (nmT (i := 11) T (by decide) (by rfl) (by decide)) (.cons (nmT (i := 12) T (by decide) (by rfl) (by decide)) (.cons (nmT (i := 14) T (by decide) (by rfl) (by decide)) (.cons (nmT (i := 18) T (by decide) (by rfl) (by decide)) (.cons (nmT (i := 23) T (by decide) (by rfl) (by decide)) .nil))))) (by simp)) (fun a oe cls d pn hz hf => pss_one (ps_ret (pe_tup (pa_cons (pe_xfr hz hf (pv 1)) (pa_cons (pe_xfr hz hf (pv 1)) pa_nil)))))
        (.cons (.tup (.cons (nmT (i := 13) T (by decide) (by rfl) (by decide)) (.cons (nmT (i := 24) T (by decide) (by rfl) (by decide)) .nil)) (by simp)) (fun a oe cls d pn hz hf => pss_one (ps_ret (pe_tup (pa_cons (pe_xfr hz hf (pv 1)) (pa_cons (pe_xfr hz hf (pv 1)) pa_nil)))))
        (.cons (.one (nmT (i := 16) T (by decide) (by rfl) (by decide))) (fun a oe cls d pn hz hf => pss_one (ps_ret (pe_tup (pa_cons (pe_xfr hz hf (pv 1)) (pa_cons (pe_xfr hz hf (pv 1)) pa_nil)))))
        (.cons (.one (nmT (i := 25) T (by decide) (by rfl) (by decide))) (fun a oe cls d pn hz hf => pss_one (ps_ret (pe_tup (pa_cons (pe_xfr hz hf (pv 1)) (pa_cons (pe_xfr hz hf (pv 1)) pa_nil)))))
        (.cons (.tup (.cons (nmT (i := 5) T (by decide) (by rfl) (by decide)) (.cons (nmT (i := 6) T (by decide) (by rfl) (by decide)) (.cons (nmT (i := 7) T (by decide) (by rfl) (by decide)) (.cons (nmT (i := 10) T (by decide) (by rfl) (by decide)) (.cons (nmT (i := 15) T (by decide) (by rfl) (by decide)) (.cons (nmT (i := 17) T (by decide) (by rfl) (by decide)) (.cons (nmT (i := 21) T (by decide) (by rfl) (by decide)) .nil))))))) (by simp)) (fun a oe cls d pn hz hf => pss_one (ps_ret (pe_tup (pa_cons (pe_xfr hz hf (pv 1)) pa_nil))))
        (.cons (.tup (.cons (nmT (i := 26) T (by decide) (by rfl) (by decide)) (.cons (nmT (i := 27) T (by decide) (by rfl) (by decide)) .nil)) (by simp)) (fun a oe cls d pn hz hf => pss_one (ps_ret (pe_tup (pa_cons (pe_xfr hz hf (pv 1)) pa_nil))))
        .nil))))))))))), ?_⟩
  · refine ⟨fun pins s' σ H' D I h' => ?_⟩
    obtain ⟨Ech, hW, h1, h2, h3⟩ := h'
    refine (pss_one (ps_ret (pe_tup (pa_cons pe_str (pa_cons (act (fun cls d σ' H' => σ'.length = 2 → W cls d σ' H') pn xe Ech _ _ (takes_len tk) hW) pa_nil))))).run pins s' σ H' D I ?_
    exact ⟨h1, h2, h3⟩
  · refine ⟨fun cls d H' => ∃ (i : Nat) (ws : List V) (dd : Addr), i < 28 ∧ cls = .ref (cm i) ∧ d = some dd ∧ ws.length = (rFl i).length ∧ H' dd = some (.xd (rFs i ws)) ∧ ∀ p, H' p = none → Q (.ref p) (upd H' p (.tup (.str (rNm i) :: ws))),
      fun cls d σ' H' z hs => ?_, rfl, hc, h⟩
    obtain ⟨i, ws, dd, hi, rfl, rfl, hl, hx, hq⟩ := z
    have at1 : ∀ a : Addr, (σ'.set 1 (some (V.ref a)))[1]? = some (some (V.ref a)) := fun a => List.getElem?_set_self (by omega)
    match i, hi with
    | 0, _ =>
      obtain ⟨y0, rfl⟩ := ws_1 hl
      refine ⟨true, T.any (i := 0) (by decide) [0, 1, 8, 19, 20, 22] (by decide), fun _ a ha => ?_, (fun z => nomatch z)⟩
      exact ⟨.ref a, at1 a, cm 0, dd, _, _, rfl, rfl, T.xf 0 (by decide), T.nw 0 (by decide) _ (by decide), rfl, hx, rfl, .ref a, at1 a, cm 0, dd, _, _, rfl, rfl, T.xf 0 (by decide), T.nw 0 (by decide) _ (by decide), rfl, hx, rfl, by show _ ≤ sizeLine; rw [sizeLine_eq]; simp, hq⟩
    | 1, _ =>
      obtain ⟨y0, rfl⟩ := ws_1 hl
      refine ⟨true, T.any (i := 1) (by decide) [0, 1, 8, 19, 20, 22] (by decide), fun _ a ha => ?_, (fun z => nomatch z)⟩
      exact ⟨.ref a, at1 a, cm 1, dd, _, _, rfl, rfl, T.xf 1 (by decide), T.nw 1 (by decide) _ (by decide), rfl, hx, rfl, .ref a, at1 a, cm 1, dd, _, _, rfl, rfl, T.xf 1 (by decide), T.nw 1 (by decide) _ (by decide), rfl, hx, rfl, by show _ ≤ sizeLine; rw [sizeLine_eq]; simp, hq⟩
    | 2, _ =>
      obtain ⟨y0, y1, rfl⟩ := ws_2 hl
      refine ⟨false, T.any (i := 2) (by decide) [0, 1, 8, 19, 20, 22] (by decide), (fun z => nomatch z), fun _ => ?_⟩
      refine ⟨true, T.any (i := 2) (by decide) [2] (by decide), fun _ a ha => ?_, (fun z => nomatch z)⟩
      exact ⟨.ref a, at1 a, cm 2, dd, _, _, rfl, rfl, T.xf 2 (by decide), T.nw 2 (by decide) _ (by decide), rfl, hx, rfl, .ref a, at1 a, cm 2, dd, _, _, rfl, rfl, T.xf 2 (by decide), T.nw 2 (by decide) _ (by decide), rfl, hx, rfl, .ref a, at1 a, cm 2, dd, _, _, rfl, rfl, T.xf 2 (by decide), T.nw 2 (by decide) _ (by decide), rfl, hx, rfl, by show _ ≤ sizeLine; rw [sizeLine_eq]; simp, hq⟩
    | 3, _ =>
      obtain ⟨y0, rfl⟩ := ws_1 hl
      refine ⟨false, T.any (i := 3) (by decide) [0, 1, 8, 19, 20, 22] (by decide), (fun z => nomatch z), fun _ => ?_⟩
      refine ⟨false, T.any (i := 3) (by decide) [2] (by decide), (fun z => nomatch z), fun _ => ?_⟩
      refine ⟨true, T.any (i := 3) (by decide) [3, 4] (by decide), fun _ a ha => ?_, (fun z => nomatch z)⟩
      exact ⟨.ref a, at1 a, cm 3, dd, _, _, rfl, rfl, T.xf 3 (by decide), T.nw 3 (by decide) _ (by decide), rfl, hx, rfl, .ref a, at1 a, cm 3, dd, _, _, rfl, rfl, T.xf 3 (by decide), T.nw 3 (by decide) _ (by decide), rfl, hx, rfl, by show _ ≤ sizeLine; rw [sizeLine_eq]; simp, hq⟩
    | 4, _ =>
      obtain ⟨y0, rfl⟩ := ws_1 hl
      refine ⟨false, T.any (i := 4) (by decide) [0, 1, 8, 19, 20, 22] (by decide), (fun z => nomatch z), fun _ => ?_⟩
      refine ⟨false, T.any (i := 4) (by decide) [2] (by decide), (fun z => nomatch z), fun _ => ?_⟩
      refine ⟨true, T.any (i := 4) (by decide) [3, 4] (by decide), fun _ a ha => ?_, (fun z => nomatch z)⟩
      exact ⟨.ref a, at1 a, cm 4, dd, _, _, rfl, rfl, T.xf 4 (by decide), T.nw 4 (by decide) _ (by decide), rfl, hx, rfl, .ref a, at1 a, cm 4, dd, _, _, rfl, rfl, T.xf 4 (by decide), T.nw 4 (by decide) _ (by decide), rfl, hx, rfl, by show _ ≤ sizeLine; rw [sizeLine_eq]; simp, hq⟩
    | 5, _ =>
      obtain rfl := ws_0 hl
      refine ⟨false, T.any (i := 5) (by decide) [0, 1, 8, 19, 20, 22] (by decide), (fun z => nomatch z), fun _ => ?_⟩
      refine ⟨false, T.any (i := 5) (by decide) [2] (by decide), (fun z => nomatch z), fun _ => ?_⟩
      refine ⟨false, T.any (i := 5) (by decide) [3, 4] (by decide), (fun z => nomatch z), fun _ => ?_⟩
      refine ⟨false, T.any (i := 5) (by decide) [9] (by decide), (fun z => nomatch z), fun _ => ?_⟩
      refine ⟨false, T.any (i := 5) (by decide) [11, 12, 14, 18, 23] (by decide), (fun z => nomatch z), fun _ => ?_⟩
      refine ⟨false, T.any (i := 5) (by decide) [13, 24] (by decide), (fun z => nomatch z), fun _ => ?_⟩
      refine ⟨false, T.any (i := 5) (by decide) [16] (by decide), (fun z => nomatch z), fun _ => ?_⟩
      refine ⟨false, T.any (i := 5) (by decide) [25] (by decide), (fun z => nomatch z), fun _ => ?_⟩
      refine ⟨true, T.any (i := 5) (by decide) [5, 6, 7, 10, 15, 17, 21] (by decide), fun _ a ha => ?_, (fun z => nomatch z)⟩
      exact ⟨.ref a, at1 a, cm 5, dd, _, _, rfl, rfl, T.xf 5 (by decide), T.nw 5 (by decide) _ (by decide), rfl, hx, rfl, by show _ ≤ sizeLine; rw [sizeLine_eq]; simp, hq⟩
    | 6, _ =>
      obtain rfl := ws_0 hl
      refine ⟨false, T.any (i := 6) (by decide) [0, 1, 8, 19, 20, 22] (by decide), (fun z => nomatch z), fun _ => ?_⟩
      refine ⟨false, T.any (i := 6) (by decide) [2] (by decide), (fun z => nomatch z), fun _ => ?_⟩
      refine ⟨false, T.any (i := 6) (by decide) [3, 4] (by decide), (fun z => nomatch z), fun _ => ?_⟩
      refine ⟨false, T.any (i := 6) (by decide) [9] (by decide), (fun z => nomatch z), fun _ => ?_⟩
      refine ⟨false, T.any (i := 6) (by decide) [11, 12, 14, 18, 23] (by decide), (fun z => nomatch z), fun _ => ?_⟩
      refine ⟨false, T.any (i := 6) (by decide) [13, 24] (by decide), (fun z => nomatch z), fun _ => ?_⟩
      refine ⟨false, T.any (i := 6) (by decide) [16] (by decide), (fun z => nomatch z), fun _ => ?_⟩
      refine ⟨false, T.any (i := 6) (by decide) [25] (by decide), (fun z => nomatch z), fun _ => ?_⟩
      refine ⟨true, T.any (i := 6) (by decide) [5, 6, 7, 10, 15, 17, 21] (by decide), fun _ a ha => ?_, (fun z => nomatch z)⟩
      exact ⟨.ref a, at1 a, cm 6, dd, _, _, rfl, rfl, T.xf 6 (by decide), T.nw 6 (by decide) _ (by decide), rfl, hx, rfl, by show _ ≤ sizeLine; rw [sizeLine_eq]; simp, hq⟩
    | 7, _ =>
      obtain rfl := ws_0 hl
      refine ⟨false, T.any (i := 7) (by decide) [0, 1, 8, 19, 20, 22] (by decide), (fun z => nomatch z), fun _ => ?_⟩
      refine ⟨false, T.any (i := 7) (by decide) [2] (by decide), (fun z => nomatch z), fun _ => ?_⟩
      refine ⟨false, T.any (i := 7) (by decide) [3, 4] (by decide), (fun z => nomatch z), fun _ => ?_⟩
      refine ⟨false, T.any (i := 7) (by decide) [9] (by decide), (fun z => nomatch z), fun _ => ?_⟩
      refine ⟨false, T.any (i := 7) (by decide) [11, 12, 14, 18, 23] (by decide), (fun z => nomatch z), fun _ => ?_⟩
      refine ⟨false, T.any (i := 7) (by decide) [13, 24] (by decide), (fun z => nomatch z), fun _ => ?_⟩
      refine ⟨false, T.any (i := 7) (by decide) [16] (by decide), (fun z => nomatch z), fun _ => ?_⟩
      refine ⟨false, T.any (i := 7) (by decide) [25] (by decide), (fun z => nomatch z), fun _ => ?_⟩
      refine ⟨true, T.any (i := 7) (by decide) [5, 6, 7, 10, 15, 17, 21] (by decide), fun _ a ha => ?_, (fun z => nomatch z)⟩
      exact ⟨.ref a, at1 a, cm 7, dd, _, _, rfl, rfl, T.xf 7 (by decide), T.nw 7 (by decide) _ (by decide), rfl, hx, rfl, by show _ ≤ sizeLine; rw [sizeLine_eq]; simp, hq⟩
    | 8, _ =>
      obtain ⟨y0, rfl⟩ := ws_1 hl
      refine ⟨true, T.any (i := 8) (by decide) [0, 1, 8, 19, 20, 22] (by decide), fun _ a ha => ?_, (fun z => nomatch z)⟩
      exact ⟨.ref a, at1 a, cm 8, dd, _, _, rfl, rfl, T.xf 8 (by decide), T.nw 8 (by decide) _ (by decide), rfl, hx, rfl, .ref a, at1 a, cm 8, dd, _, _, rfl, rfl, T.xf 8 (by decide), T.nw 8 (by decide) _ (by decide), rfl, hx, rfl, by show _ ≤ sizeLine; rw [sizeLine_eq]; simp, hq⟩
    | 9, _ =>
      obtain ⟨y0, rfl⟩ := ws_1 hl
      refine ⟨false, T.any (i := 9) (by decide) [0, 1, 8, 19, 20, 22] (by decide), (fun z => nomatch z), fun _ => ?_⟩
      refine ⟨false, T.any (i := 9) (by decide) [2] (by decide), (fun z => nomatch z), fun _ => ?_⟩
      refine ⟨false, T.any (i := 9) (by decide) [3, 4] (by decide), (fun z => nomatch z), fun _ => ?_⟩
      refine ⟨true, T.any (i := 9) (by decide) [9] (by decide), fun _ a ha => ?_, (fun z => nomatch z)⟩
      exact ⟨.ref a, at1 a, cm 9, dd, _, _, rfl, rfl, T.xf 9 (by decide), T.nw 9 (by decide) _ (by decide), rfl, hx, rfl, .ref a, at1 a, cm 9, dd, _, _, rfl, rfl, T.xf 9 (by decide), T.nw 9 (by decide) _ (by decide), rfl, hx, rfl, by show _ ≤ sizeLine; rw [sizeLine_eq]; simp, hq⟩
    | 10, _ =>
      obtain rfl := ws_0 hl
      refine ⟨false, T.any (i := 10) (by decide) [0, 1, 8, 19, 20, 22] (by decide), (fun z => nomatch z), fun _ => ?_⟩
      refine ⟨false, T.any (i := 10) (by decide) [2] (by decide), (fun z => nomatch z), fun _ => ?_⟩
      refine ⟨false, T.any (i := 10) (by decide) [3, 4] (by decide), (fun z => nomatch z), fun _ => ?_⟩
      refine ⟨false, T.any (i := 10) (by decide) [9] (by decide), (fun z => nomatch z), fun _ => ?_⟩
      refine ⟨false, T.any (i := 10) (by decide) [11, 12, 14, 18, 23] (by decide), (fun z => nomatch z), fun _ => ?_⟩
      refine ⟨false, T.any (i := 10) (by decide) [13, 24] (by decide), (fun z => nomatch z), fun _ => ?_⟩
      refine ⟨false, T.any (i := 10) (by decide) [16] (by decide), (fun z => nomatch z), fun _ => ?_⟩
      refine ⟨false, T.any (i := 10) (by decide) [25] (by decide), (fun z => nomatch z), fun _ => ?_⟩
      refine ⟨true, T.any (i := 10) (by decide) [5, 6, 7, 10, 15, 17, 21] (by decide), fun _ a ha => ?_, (fun z => nomatch z)⟩
      exact ⟨.ref a, at1 a, cm 10, dd, _, _, rfl, rfl, T.xf 10 (by decide), T.nw 10 (by decide) _ (by decide), rfl, hx, rfl, by show _ ≤ sizeLine; rw [sizeLine_eq]; simp, hq⟩
    | 11, _ =>
      obtain ⟨y0, rfl⟩ := ws_1 hl
      refine ⟨false, T.any (i := 11) (by decide) [0, 1, 8, 19, 20, 22] (by decide), (fun z => nomatch z), fun _ => ?_⟩
      refine ⟨false, T.any (i := 11) (by decide) [2] (by decide), (fun z => nomatch z), fun _ => ?_⟩
      refine ⟨false, T.any (i := 11) (by decide) [3, 4] (by decide), (fun z => nomatch z), fun _ => ?_⟩
      refine ⟨false, T.any (i := 11) (by decide) [9] (by decide), (fun z => nomatch z), fun _ => ?_⟩
      refine ⟨true, T.any (i := 11) (by decide) [11, 12, 14, 18, 23] (by decide), fun _ a ha => ?_, (fun z => nomatch z)⟩
      exact ⟨.ref a, at1 a, cm 11, dd, _, _, rfl, rfl, T.xf 11 (by decide), T.nw 11 (by decide) _ (by decide), rfl, hx, rfl, .ref a, at1 a, cm 11, dd, _, _, rfl, rfl, T.xf 11 (by decide), T.nw 11 (by decide) _ (by decide), rfl, hx, rfl, by show _ ≤ sizeLine; rw [sizeLine_eq]; simp, hq⟩
    | 12, _ =>
      obtain ⟨y0, rfl⟩ := ws_1 hl
      refine ⟨false, T.any (i := 12) (by decide) [0, 1, 8, 19, 20, 22] (by decide), (fun z => nomatch z), fun _ => ?_⟩
      refine ⟨false, T.any (i := 12) (by decide) [2] (by decide), (fun z => nomatch z), fun _ => ?_⟩
      refine ⟨false, T.any (i := 12) (by decide) [3, 4] (by decide), (fun z => nomatch z), fun _ => ?_⟩
      refine ⟨false, T.any (i := 12) (by decide) [9] (by decide), (fun z => nomatch z), fun _ => ?_⟩
      refine ⟨true, T.any (i := 12) (by decide) [11, 12, 14, 18, 23] (by decide), fun _ a ha => ?_, (fun z => nomatch z)⟩
      exact ⟨.ref a, at1 a, cm 12, dd, _, _, rfl, rfl, T.xf 12 (by decide), T.nw 12 (by decide) _ (by decide), rfl, hx, rfl, .ref a, at1 a, cm 12, dd, _, _, rfl, rfl, T.xf 12 (by decide), T.nw 12 (by decide) _ (by decide), rfl, hx, rfl, by show _ ≤ sizeLine; rw [sizeLine_eq]; simp, hq⟩
    | 13, _ =>
      obtain ⟨y0, rfl⟩ := ws_1 hl
      refine ⟨false, T.any (i := 13) (by decide) [0, 1, 8, 19, 20, 22] (by decide), (fun z => nomatch z), fun _ => ?_⟩
      refine ⟨false, T.any (i := 13) (by decide) [2] (by decide), (fun z => nomatch z), fun _ => ?_⟩
      refine ⟨false, T.any (i := 13) (by decide) [3, 4] (by decide), (fun z => nomatch z), fun _ => ?_⟩
      refine ⟨false, T.any (i := 13) (by decide) [9] (by decide), (fun z => nomatch z), fun _ => ?_⟩
      refine ⟨false, T.any (i := 13) (by decide) [11, 12, 14, 18, 23] (by decide), (fun z => nomatch z), fun _ => ?_⟩
      refine ⟨true, T.any (i := 13) (by decide) [13, 24] (by decide), fun _ a ha => ?_, (fun z => nomatch z)⟩
      exact ⟨.ref a, at1 a, cm 13, dd, _, _, rfl, rfl, T.xf 13 (by decide), T.nw 13 (by decide) _ (by decide), rfl, hx, rfl, .ref a, at1 a, cm 13, dd, _, _, rfl, rfl, T.xf 13 (by decide), T.nw 13 (by decide) _ (by decide), rfl, hx, rfl, by show _ ≤ sizeLine; rw [sizeLine_eq]; simp, hq⟩
    | 14, _ =>
      obtain ⟨y0, rfl⟩ := ws_1 hl
      refine ⟨false, T.any (i := 14) (by decide) [0, 1, 8, 19, 20, 22] (by decide), (fun z => nomatch z), fun _ => ?_⟩
      refine ⟨false, T.any (i := 14) (by decide) [2] (by decide), (fun z => nomatch z), fun _ => ?_⟩
      refine ⟨false, T.any (i := 14) (by decide) [3, 4] (by decide), (fun z => nomatch z), fun _ => ?_⟩
      refine ⟨false, T.any (i := 14) (by decide) [9] (by decide), (fun z => nomatch z), fun _ => ?_⟩
      refine ⟨true, T.any (i := 14) (by decide) [11, 12, 14, 18, 23] (by decide), fun _ a ha => ?_, (fun z => nomatch z)⟩
      exact ⟨.ref a, at1 a, cm 14, dd, _, _, rfl, rfl, T.xf 14 (by decide), T.nw 14 (by decide) _ (by decide), rfl, hx, rfl, .ref a, at1 a, cm 14, dd, _, _, rfl, rfl, T.xf 14 (by decide), T.nw 14 (by decide) _ (by decide), rfl, hx, rfl, by show _ ≤ sizeLine; rw [sizeLine_eq]; simp, hq⟩
    | 15, _ =>
      obtain rfl := ws_0 hl
      refine ⟨false, T.any (i := 15) (by decide) [0, 1, 8, 19, 20, 22] (by decide), (fun z => nomatch z), fun _ => ?_⟩
      refine ⟨false, T.any (i := 15) (by decide) [2] (by decide), (fun z => nomatch z), fun _ => ?_⟩
      refine ⟨false, T.any (i := 15) (by decide) [3, 4] (by decide), (fun z => nomatch z), fun _ => ?_⟩
      refine ⟨false, T.any (i := 15) (by decide) [9] (by decide), (fun z => nomatch z), fun _ => ?_⟩
      refine ⟨false, T.any (i := 15) (by decide) [11, 12, 14, 18, 23] (by decide), (fun z => nomatch z), fun _ => ?_⟩
      refine ⟨false, T.any (i := 15) (by decide) [13, 24] (by decide), (fun z => nomatch z), fun _ => ?_⟩
      refine ⟨false, T.any (i := 15) (by decide) [16] (by decide), (fun z => nomatch z), fun _ => ?_⟩
      refine ⟨false, T.any (i := 15) (by decide) [25] (by decide), (fun z => nomatch z), fun _ => ?_⟩
      refine ⟨true, T.any (i := 15) (by decide) [5, 6, 7, 10, 15, 17, 21] (by decide), fun _ a ha => ?_, (fun z => nomatch z)⟩
      exact ⟨.ref a, at1 a, cm 15, dd, _, _, rfl, rfl, T.xf 15 (by decide), T.nw 15 (by decide) _ (by decide), rfl, hx, rfl, by show _ ≤ sizeLine; rw [sizeLine_eq]; simp, hq⟩
    | 16, _ =>
      obtain ⟨y0, rfl⟩ := ws_1 hl
      refine ⟨false, T.any (i := 16) (by decide) [0, 1, 8, 19, 20, 22] (by decide), (fun z => nomatch z), fun _ => ?_⟩
      refine ⟨false, T.any (i := 16) (by decide) [2] (by decide), (fun z => nomatch z), fun _ => ?_⟩
      refine ⟨false, T.any (i := 16) (by decide) [3, 4] (by decide), (fun z => nomatch z), fun _ => ?_⟩
      refine ⟨false, T.any (i := 16) (by decide) [9] (by decide), (fun z => nomatch z), fun _ => ?_⟩
      refine ⟨false, T.any (i := 16) (by decide) [11, 12, 14, 18, 23] (by decide), (fun z => nomatch z), fun _ => ?_⟩
      refine ⟨false, T.any (i := 16) (by decide) [13, 24] (by decide), (fun z => nomatch z), fun _ => ?_⟩
      refine ⟨true, T.any (i := 16) (by decide) [16] (by decide), fun _ a ha => ?_, (fun z => nomatch z)⟩
      exact ⟨.ref a, at1 a, cm 16, dd, _, _, rfl, rfl, T.xf 16 (by decide), T.nw 16 (by decide) _ (by decide), rfl, hx, rfl, .ref a, at1 a, cm 16, dd, _, _, rfl, rfl, T.xf 16 (by decide), T.nw 16 (by decide) _ (by decide), rfl, hx, rfl, by show _ ≤ sizeLine; rw [sizeLine_eq]; simp, hq⟩
    | 17, _ =>
      obtain rfl := ws_0 hl
      refine ⟨false, T.any (i := 17) (by decide) [0, 1, 8, 19, 20, 22] (by decide), (fun z => nomatch z), fun _ => ?_⟩
      refine ⟨false, T.any (i := 17) (by decide) [2] (by decide), (fun z => nomatch z), fun _ => ?_⟩
      refine ⟨false, T.any (i := 17) (by decide) [3, 4] (by decide), (fun z => nomatch z), fun _ => ?_⟩
      refine ⟨false, T.any (i := 17) (by decide) [9] (by decide), (fun z => nomatch z), fun _ => ?_⟩
      refine ⟨false, T.any (i := 17) (by decide) [11, 12, 14, 18, 23] (by decide), (fun z => nomatch z), fun _ => ?_⟩
      refine ⟨false, T.any (i := 17) (by decide) [13, 24] (by decide), (fun z => nomatch z), fun _ => ?_⟩
      refine ⟨false, T.any (i := 17) (by decide) [16] (by decide), (fun z => nomatch z), fun _ => ?_⟩
      refine ⟨false, T.any (i := 17) (by decide) [25] (by decide), (fun z => nomatch z), fun _ => ?_⟩
      refine ⟨true, T.any (i := 17) (by decide) [5, 6, 7, 10, 15, 17, 21] (by decide), fun _ a ha => ?_, (fun z => nomatch z)⟩
      exact ⟨.ref a, at1 a, cm 17, dd, _, _, rfl, rfl, T.xf 17 (by decide), T.nw 17 (by decide) _ (by decide), rfl, hx, rfl, by show _ ≤ sizeLine; rw [sizeLine_eq]; simp, hq⟩
    | 18, _ =>
      obtain ⟨y0, rfl⟩ := ws_1 hl
      refine ⟨false, T.any (i := 18) (by decide) [0, 1, 8, 19, 20, 22] (by decide), (fun z => nomatch z), fun _ => ?_⟩
      refine ⟨false, T.any (i := 18) (by decide) [2] (by decide), (fun z => nomatch z), fun _ => ?_⟩
      refine ⟨false, T.any (i := 18) (by decide) [3, 4] (by decide), (fun z => nomatch z), fun _ => ?_⟩
      refine ⟨false, T.any (i := 18) (by decide) [9] (by decide), (fun z => nomatch z), fun _ => ?_⟩
      refine ⟨true, T.any (i := 18) (by decide) [11, 12, 14, 18, 23] (by decide), fun _ a ha => ?_, (fun z => nomatch z)⟩
      exact ⟨.ref a, at1 a, cm 18, dd, _, _, rfl, rfl, T.xf 18 (by decide), T.nw 18 (by decide) _ (by decide), rfl, hx, rfl, .ref a, at1 a, cm 18, dd, _, _, rfl, rfl, T.xf 18 (by decide), T.nw 18 (by decide) _ (by decide), rfl, hx, rfl, by show _ ≤ sizeLine; rw [sizeLine_eq]; simp, hq⟩
    | 19, _ =>
      obtain ⟨y0, rfl⟩ := ws_1 hl
      refine ⟨true, T.any (i := 19) (by decide) [0, 1, 8, 19, 20, 22] (by decide), fun _ a ha => ?_, (fun z => nomatch z)⟩
      exact ⟨.ref a, at1 a, cm 19, dd, _, _, rfl, rfl, T.xf 19 (by decide), T.nw 19 (by decide) _ (by decide), rfl, hx, rfl, .ref a, at1 a, cm 19, dd, _, _, rfl, rfl, T.xf 19 (by decide), T.nw 19 (by decide) _ (by decide), rfl, hx, rfl, by show _ ≤ sizeLine; rw [sizeLine_eq]; simp, hq⟩
    | 20, _ =>
      obtain ⟨y0, rfl⟩ := ws_1 hl
      refine ⟨true, T.any (i := 20) (by decide) [0, 1, 8, 19, 20, 22] (by decide), fun _ a ha => ?_, (fun z => nomatch z)⟩
      exact ⟨.ref a, at1 a, cm 20, dd, _, _, rfl, rfl, T.xf 20 (by decide), T.nw 20 (by decide) _ (by decide), rfl, hx, rfl, .ref a, at1 a, cm 20, dd, _, _, rfl, rfl, T.xf 20 (by decide), T.nw 20 (by decide) _ (by decide), rfl, hx, rfl, by show _ ≤ sizeLine; rw [sizeLine_eq]; simp, hq⟩
    | 21, _ =>
      obtain rfl := ws_0 hl
      refine ⟨false, T.any (i := 21) (by decide) [0, 1, 8, 19, 20, 22] (by decide), (fun z => nomatch z), fun _ => ?_⟩
      refine ⟨false, T.any (i := 21) (by decide) [2] (by decide), (fun z => nomatch z), fun _ => ?_⟩
      refine ⟨false, T.any (i := 21) (by decide) [3, 4] (by decide), (fun z => nomatch z), fun _ => ?_⟩
      refine ⟨false, T.any (i := 21) (by decide) [9] (by decide), (fun z => nomatch z), fun _ => ?_⟩
      refine ⟨false, T.any (i := 21) (by decide) [11, 12, 14, 18, 23] (by decide), (fun z => nomatch z), fun _ => ?_⟩
      refine ⟨false, T.any (i := 21) (by decide) [13, 24] (by decide), (fun z => nomatch z), fun _ => ?_⟩
      refine ⟨false, T.any (i := 21) (by decide) [16] (by decide), (fun z => nomatch z), fun _ => ?_⟩
      refine ⟨false, T.any (i := 21) (by decide) [25] (by decide), (fun z => nomatch z), fun _ => ?_⟩
      refine ⟨true, T.any (i := 21) (by decide) [5, 6, 7, 10, 15, 17, 21] (by decide), fun _ a ha => ?_, (fun z => nomatch z)⟩
      exact ⟨.ref a, at1 a, cm 21, dd, _, _, rfl, rfl, T.xf 21 (by decide), T.nw 21 (by decide) _ (by decide), rfl, hx, rfl, by show _ ≤ sizeLine; rw [sizeLine_eq]; simp, hq⟩
    | 22, _ =>
      obtain ⟨y0, rfl⟩ := ws_1 hl
      refine ⟨true, T.any (i := 22) (by decide) [0, 1, 8, 19, 20, 22] (by decide), fun _ a ha => ?_, (fun z => nomatch z)⟩
      exact ⟨.ref a, at1 a, cm 22, dd, _, _, rfl, rfl, T.xf 22 (by decide), T.nw 22 (by decide) _ (by decide), rfl, hx, rfl, .ref a, at1 a, cm 22, dd, _, _, rfl, rfl, T.xf 22 (by decide), T.nw 22 (by decide) _ (by decide), rfl, hx, rfl, by show _ ≤ sizeLine; rw [sizeLine_eq]; simp, hq⟩
    | 23, _ =>
      obtain ⟨y0, rfl⟩ := ws_1 hl
      refine ⟨false, T.any (i := 23) (by decide) [0, 1, 8, 19, 20, 22] (by decide), (fun z => nomatch z), fun _ => ?_⟩
      refine ⟨false, T.any (i := 23) (by decide) [2] (by decide), (fun z => nomatch z), fun _ => ?_⟩
      refine ⟨false, T.any (i := 23) (by decide) [3, 4] (by decide), (fun z => nomatch z), fun _ => ?_⟩
      refine ⟨false, T.any (i := 23) (by decide) [9] (by decide), (fun z => nomatch z), fun _ => ?_⟩
      refine ⟨true, T.any (i := 23) (by decide) [11, 12, 14, 18, 23] (by decide), fun _ a ha => ?_, (fun z => nomatch z)⟩
      exact ⟨.ref a, at1 a, cm 23, dd, _, _, rfl, rfl, T.xf 23 (by decide), T.nw 23 (by decide) _ (by decide), rfl, hx, rfl, .ref a, at1 a, cm 23, dd, _, _, rfl, rfl, T.xf 23 (by decide), T.nw 23 (by decide) _ (by decide), rfl, hx, rfl, by show _ ≤ sizeLine; rw [sizeLine_eq]; simp, hq⟩
    | 24, _ =>
      obtain ⟨y0, rfl⟩ := ws_1 hl
      refine ⟨false, T.any (i := 24) (by decide) [0, 1, 8, 19, 20, 22] (by decide), (fun z => nomatch z), fun _ => ?_⟩
      refine ⟨false, T.any (i := 24) (by decide) [2] (by decide), (fun z => nomatch z), fun _ => ?_⟩
      refine ⟨false, T.any (i := 24) (by decide) [3, 4] (by decide), (fun z => nomatch z), fun _ => ?_⟩
      refine ⟨false, T.any (i := 24) (by decide) [9] (by decide), (fun z => nomatch z), fun _ => ?_⟩
      refine ⟨false, T.any (i := 24) (by decide) [11, 12, 14, 18, 23] (by decide), (fun z => nomatch z), fun _ => ?_⟩
      refine ⟨true, T.any (i := 24) (by decide) [13, 24] (by decide), fun _ a ha => ?_, (fun z => nomatch z)⟩
      exact ⟨.ref a, at1 a, cm 24, dd, _, _, rfl, rfl, T.xf 24 (by decide), T.nw 24 (by decide) _ (by decide), rfl, hx, rfl, .ref a, at1 a, cm 24, dd, _, _, rfl, rfl, T.xf 24 (by decide), T.nw 24 (by decide) _ (by decide), rfl, hx, rfl, by show _ ≤ sizeLine; rw [sizeLine_eq]; simp, hq⟩
    | 25, _ =>
      obtain ⟨y0, rfl⟩ := ws_1 hl
      refine ⟨false, T.any (i := 25) (by decide) [0, 1, 8, 19, 20, 22] (by decide), (fun z => nomatch z), fun _ => ?_⟩
      refine ⟨false, T.any (i := 25) (by decide) [2] (by decide), (fun z => nomatch z), fun _ => ?_⟩
      refine ⟨false, T.any (i := 25) (by decide) [3, 4] (by decide), (fun z => nomatch z), fun _ => ?_⟩
      refine ⟨false, T.any (i := 25) (by decide) [9] (by decide), (fun z => nomatch z), fun _ => ?_⟩
      refine ⟨false, T.any (i := 25) (by decide) [11, 12, 14, 18, 23] (by decide), (fun z => nomatch z), fun _ => ?_⟩
      refine ⟨false, T.any (i := 25) (by decide) [13, 24] (by decide), (fun z => nomatch z), fun _ => ?_⟩
      refine ⟨false, T.any (i := 25) (by decide) [16] (by decide), (fun z => nomatch z), fun _ => ?_⟩
      refine ⟨true, T.any (i := 25) (by decide) [25] (by decide), fun _ a ha => ?_, (fun z => nomatch z)⟩
      exact ⟨.ref a, at1 a, cm 25, dd, _, _, rfl, rfl, T.xf 25 (by decide), T.nw 25 (by decide) _ (by decide), rfl, hx, rfl, .ref a, at1 a, cm 25, dd, _, _, rfl, rfl, T.xf 25 (by decide), T.nw 25 (by decide) _ (by decide), rfl, hx, rfl, by show _ ≤ sizeLine; rw [sizeLine_eq]; simp, hq⟩
    | 26, _ =>
      obtain rfl := ws_0 hl
      refine ⟨false, T.any (i := 26) (by decide) [0, 1, 8, 19, 20, 22] (by decide), (fun z => nomatch z), fun _ => ?_⟩
      refine ⟨false, T.any (i := 26) (by decide) [2] (by decide), (fun z => nomatch z), fun _ => ?_⟩
      refine ⟨false, T.any (i := 26) (by decide) [3, 4] (by decide), (fun z => nomatch z), fun _ => ?_⟩
      refine ⟨false, T.any (i := 26) (by decide) [9] (by decide), (fun z => nomatch z), fun _ => ?_⟩
      refine ⟨false, T.any (i := 26) (by decide) [11, 12, 14, 18, 23] (by decide), (fun z => nomatch z), fun _ => ?_⟩
      refine ⟨false, T.any (i := 26) (by decide) [13, 24] (by decide), (fun z => nomatch z), fun _ => ?_⟩
      refine ⟨false, T.any (i := 26) (by decide) [16] (by decide), (fun z => nomatch z), fun _ => ?_⟩
      refine ⟨false, T.any (i := 26) (by decide) [25] (by decide), (fun z => nomatch z), fun _ => ?_⟩
      refine ⟨false, T.any (i := 26) (by decide) [5, 6, 7, 10, 15, 17, 21] (by decide), (fun z => nomatch z), fun _ => ?_⟩
      refine ⟨true, T.any (i := 26) (by decide) [26, 27] (by decide), fun _ a ha => ?_, (fun z => nomatch z)⟩
      exact ⟨.ref a, at1 a, cm 26, dd, _, _, rfl, rfl, T.xf 26 (by decide), T.nw 26 (by decide) _ (by decide), rfl, hx, rfl, by show _ ≤ sizeLine; rw [sizeLine_eq]; simp, hq⟩
    | 27, _ =>
      obtain rfl := ws_0 hl
      refine ⟨false, T.any (i := 27) (by decide) [0, 1, 8, 19, 20, 22] (by decide), (fun z => nomatch z), fun _ => ?_⟩
      refine ⟨false, T.any (i := 27) (by decide) [2] (by decide), (fun z => nomatch z), fun _ => ?_⟩
      refine ⟨false, T.any (i := 27) (by decide) [3, 4] (by decide), (fun z => nomatch z), fun _ => ?_⟩
      refine ⟨false, T.any (i := 27) (by decide) [9] (by decide), (fun z => nomatch z), fun _ => ?_⟩
      refine ⟨false, T.any (i := 27) (by decide) [11, 12, 14, 18, 23] (by decide), (fun z => nomatch z), fun _ => ?_⟩
      refine ⟨false, T.any (i := 27) (by decide) [13, 24] (by decide), (fun z => nomatch z), fun _ => ?_⟩
      refine ⟨false, T.any (i := 27) (by decide) [16] (by decide), (fun z => nomatch z), fun _ => ?_⟩
      refine ⟨false, T.any (i := 27) (by decide) [25] (by decide), (fun z => nomatch z), fun _ => ?_⟩
      refine ⟨false, T.any (i := 27) (by decide) [5, 6, 7, 10, 15, 17, 21] (by decide), (fun z => nomatch z), fun _ => ?_⟩
      refine ⟨true, T.any (i := 27) (by decide) [26, 27] (by decide), fun _ a ha => ?_, (fun z => nomatch z)⟩
      exact ⟨.ref a, at1 a, cm 27, dd, _, _, rfl, rfl, T.xf 27 (by decide), T.nw 27 (by decide) _ (by decide), rfl, hx, rfl, by show _ ≤ sizeLine; rw [sizeLine_eq]; simp, hq⟩
    | n + 28, hi => exact absurd hi (by omega)
/-! ### the 28 refusals by one Bool -/
def refsB (K : PySem.W.Frag) : Bool := frL (rNms.map (He.ga K)) fun cs => (List.range 28).all fun i => frN (cs.getD i 0) fun C => xfB K C && ((("word" : Str) :: rFl i).all fun f => He.eqO (PySem.W.findIn K (.ref C) f) (some none)) &&
  (List.range 28).all fun j => decide (PySem.W.exmOne K (.ref C) (.ref (cs.getD j 0)) = some (decide (i = j)))
theorem refsB_ok {K : PySem.W.Frag} {h : Heap} {mg : Str → Option Value} {fa : List He.Fa} {fn : List He.DefD} (X : K.In h) (G : h.Ns mainGlobals mg) (c : He.SaysD (rNms.map He.Fa.glo ++ fa) fn K) (hb : refsB K = true) : RefsT K mg (fun i => (rNms.map (He.ga K)).getD i 0) := by
  unfold refsB at hb
  rw [frL_eq] at hb
  have key : ∀ i, i < 28 → xfB K ((rNms.map (He.ga K)).getD i 0) = true ∧ ((("word" : Str) :: rFl i).all fun f => He.eqO (PySem.W.findIn K (.ref ((rNms.map (He.ga K)).getD i 0)) f) (some none)) = true ∧ ((List.range 28).all fun j => decide (PySem.W.exmOne K (.ref ((rNms.map (He.ga K)).getD i 0)) (.ref ((rNms.map (He.ga K)).getD j 0)) = some (decide (i = j)))) = true := fun i hi => by
    have z := List.all_eq_true.mp hb i (List.mem_range.mpr hi)
    rw [frN_eq] at z
    obtain ⟨z1, z2⟩ := Bool.and_eq_true_iff.mp z
    obtain ⟨z3, z4⟩ := Bool.and_eq_true_iff.mp z1
    exact ⟨z3, z4, z2⟩
  refine ⟨fun i hi => ?_, fun i hi => xfB_ok (key i hi).1, fun i hi f hf => He.eqO_ok (List.all_eq_true.mp (key i hi).2.1 f hf), fun i j hi hj => of_decide_eq_true (List.all_eq_true.mp (key i hi).2.2 j (List.mem_range.mpr hj))⟩
  have hl : i < rNms.length := hi
  have e1 : rNm i = rNms[i] := by
    unfold rNm
    rw [List.getD_eq_getElem?_getD, List.getElem?_eq_getElem hl]
    rfl
  have e2 : (rNms.map (He.ga K)).getD i 0 = He.ga K (rNm i) := by
    rw [e1, List.getD_eq_getElem?_getD, List.getElem?_map, List.getElem?_eq_getElem hl]
    rfl
  rw [e2]
  refine He.glo_ok X G (c.facts (f := .glo (rNm i)) (List.mem_append_left _ (List.mem_map.mpr ⟨rNm i, ?_, rfl⟩)))
  rw [e1]
  exact List.getElem_mem hl
/-! ### _law_tried(x), x one of some lambdas -/
theorem visTriedV : Vis (defScope sTried) "_law_act" := .inl rfl
section
open LamX NdefX
theorem cells_unX {cl : List (Str × Addr)} {fr : List Str} {ws : List (Option V)} {fs ex : List Addr} {H HZ : Hp} {h hZ : Heap} (C : CellsAt cl fr ws h H) (nx : ∀ y c, cl.lookup y = some c → c ∉ ex) (un : Un fs ex H HZ h hZ) : CellsAt cl fr ws hZ HZ := by
  have kp : ∀ y c, cl.lookup y = some c → ∀ v, h.IsCell c v → hZ.IsCell c v := fun y c e v ⟨o, ho, hd⟩ => by
    obtain ⟨sl, q⟩ := un.any ho (C.all y c e).1 (nx y c e)
    exact ⟨_, q, hd⟩
  refine ⟨C.len, fun y c e => ?_, C.inj, fun i y e => ?_⟩
  · obtain ⟨n, v, z⟩ := C.all y c e
    refine ⟨?_, v, kp y c e v z⟩
    obtain ⟨o, ho, _⟩ := z
    exact un.free c o ho n (nx y c e)
  · obtain ⟨c, hc, hv⟩ := C.has i y e
    refine ⟨c, hc, fun v ev => ?_⟩
    obtain ⟨u, r, z⟩ := hv v ev
    exact ⟨u, r, kp y c hc _ z⟩
/-- the cells of a def's lambda, in a comprehension of the def -/
theorem cells_blk {X : Cx} {pins0 pins : List (Addr × Obj)} {σ0 σ : L2.St} {H0 H : Hp} {s0 s : Shared} {scope lsc : Scope} {ce : Env} {fp : List Addr} {fr : List Str} {js : List Nat} (I0 : Inv X pins0 σ0 H0 s0) (hfp : ∀ b ∈ fp, FpOk X pins0 H0 b)
    (hfree : ∀ y ∈ lsc.names, y.2 = .free → X.env.scope.names.lookup y.1 = some .cell ∨ X.env.scope.names.lookup y.1 = some .free) (hfr : ∀ y ∈ fr, (y, NameKind.free) ∈ lsc.names) (hjs : js.map (fun j => X.N[j]?) = fr.map some)
    (I : Inv (X.blk s0 H0 scope ce fp) pins σ H s) : CellsAt (cloFrom X.env.cells lsc.names []) fr (js.map (slotAt σ0)) s.heap H := by
  have cp := Caps.made (fr := fr) (js := js) I0.ok hfree hfr hjs
  refine cells_unX (cells_of I0 cp) (fun y c e hc => ?_) I.base
  obtain ⟨_, _, _, _, f4, _⟩ := hfp c hc
  exact f4 y c (cp.sub y c e) rfl
structure LamD where
  lf : Addr → Value → LF
  ps : List Str
  fr : List Str
  ds : List Int
  tb : XK → TE
/-- what is known of one of them; its cells hold ws -/
structure LamK (Y : Cx) (k : Nat) (q : Str) (D : LamD) (ws : List (Option V)) : Prop where
  sc : ∀ c' dV, NScope (D.ps ++ D.fr) D.ps D.fr (D.lf c' dV).scope
  c0 : ∀ c' dV, (D.lf c' dV).c = c'
  d0 : ∀ c' dV, (D.lf c' dV).dV = dV
  q0 : ∀ c' dV, (D.lf c' dV).qual = q
  bd : Binds0 D.lf D.ps
  ln : D.ds.length = D.ps.length
  ce : ∀ c' dV (pins : List (Addr × Obj)) (σ : L2.St) (H : Hp) (s : Shared), Inv Y pins σ H s → CellsAt (D.lf c' dV).cl D.fr ws s.heap H
  bo : ∀ c' dV (f : Addr) (A : Around) (outer : List Env) (s : Shared) (H : Hp) (E : XK), Room k (A.deeper (envF (D.lf c' dV).nf f s.heap.objs.size)) → PE (ncx (L2.CX Y.prog Y.w) Y.prog Y.w Y.K Y.mg Y.base (D.ps ++ D.fr) (D.lf c' dV).nf f A outer s H E) (D.lf c' dV).body (D.tb E)
def tTriedV (cm : Nat → Addr) (q : Str) (n i : Nat) (D : Nat → LamD) (ws : Nat → List (Option V)) : TE := fun σ H Q => ∃ (j : Nat) (f c' : Addr) (dV : Value), j < n ∧ σ[i]? = some (some (.ref f)) ∧ H c' = some (CodeO c' q) ∧
  TTried cm (fun E H' Q' => H' f = some (LamO f ((D j).lf c' dV)) ∧ Dflts H' dV (D j).ds ∧ (D j).tb E (startF ((D j).ps ++ (D j).fr) ((D j).ds.map V.int) (ws j)) H' Q') H Q
theorem pe_triedV {Y : Cx} {cm : Nat → Addr} {gT : Addr} {fdT : FuncData} {k i n : Nat} {x q : Str} {D : Nat → LamD} {ws : Nat → List (Option V)} {p p' pos : Pos}
    (RT : RefsT Y.K Y.mg cm) (FT : Fun Y.K "_law_tried" "_law_tried" sTried gT fdT) (mT : Y.mg "_law_tried" = some (.ref gT)) (bT : L2.Binds Y.K fdT ["_law_act"] []) (hr : Room (k + 2) Y.A) (hgT : Gl Y "_law_tried") (hN : Y.N[i]? = some x) (hv : Vis Y.env.scope x)
    (hk : ∀ j, j < n → LamK Y k q (D j) (ws j)) (hd : (x == ("__debug__" : Str)) = false := by decide) (hcd : (x == ("__classdict__" : Str)) = false := by decide) :
    PE Y (.Call (.Name "_law_tried" p) [.Name x p'] [] pos) (tTriedV cm q n i D ws) := by
  refine ⟨fun pins s σ H Q I h => ?_⟩
  obtain ⟨j, f, c', dV, hj, hs, hc, ht⟩ := h
  refine wpAny_Call_Name_kw (ld_glob I hgT mT ?_)
  refine PySem.W.callWith_K (h₀ := Y.base) I.ok.mod.kin FT.kp (thn ((pa_cons (pe_var (pos := p') (i := i) hN hv hd hcd) pa_nil).run pos pins s σ H (fun vs H1 => vs = [.ref f] ∧ H1 = H) I ⟨.ref f, hs, rfl, rfl⟩) fun us s1 z => ?_) (by rfl) (by rfl)
  obtain ⟨vs, H1, I1, r1, rfl, rfl⟩ := z
  refine ⟨I1.kIn, ?_⟩
  obtain ⟨oc, od, kV, doc, pmT, an, cdv, ct, osl, rfl, lk, hcg⟩ := FT.ex
  have L := hk j hj
  have C := L.ce c' dV pins σ H1 s1 I1
  have rc : codeAny (model Y.prog Y.w) Y.A (.call (.ref gT) ⟨us, []⟩) (CR C8.CX0 Y.stack Y.prog Y.w H1 s1 Q C8.E0) s1 := by
    have bb : BindsTo s1 (PySem.W.fnOf "_law_tried" "_law_tried" (defArgs sTried) (defBody sTried) (defScope sTried) .none kV doc pmT an cdv ct) ⟨us, []⟩ ((["_law_act"] : List Str).zip us) := by
      have hl : (us ++ []).length = (["_law_act"] : List Str).length := by
        rw [List.append_nil, ← r1.length]
        rfl
      have z := bT s1 us I1.kIn hl
      rw [List.append_nil] at z
      exact z
    refine run_ofS (N := nTried) (ps := ["_law_act"]) (us := us) (vs := [.ref f]) (k := k + 1) lk hcg scTried hr I1.env0 bb r1 rfl fun hr' => ?_
    obtain ⟨t', ht', hq'⟩ := tried_gives (X := Y) (g := gT) (cdg := cdv) (q := q) RT f c' s1 H1 Q _ (fun W pn xe E p1 p2 tk hW => by
      have z := pe_actV (i := 0) (p1 := p1) (p2 := p2) (A' := Y.A) (outer' := Y.stack) (s0 := s1) (H0 := H1) (k := k) (f := f) (E := E) (tb := (D j).tb E) (L.sc c' dV) C (L.c0 c' dV) (L.d0 c' dV) L.bd L.ln tk hW hr' (fun A outer s H hr2 => L.bo c' dV f A outer s H E hr2) rfl visTriedV
      rw [L.q0 c' dV] at z
      exact z) hc ht
    exact ⟨t', ht'.nox, hq'⟩
  refine wpAny_call (codeAny_mono rc fun r s' hq => ?_)
  cases r with
  | error e => exact (show False from hq).elim
  | ok fl =>
    cases fl with
    | ret u => exact I1.after hq
    | next => exact False.elim hq
    | brk => exact False.elim hq
    | cont => exact False.elim hq
end
/-! ### figures on the heap -/
def All2 {α : Type} (R : V → α → Prop) : List V → List α → Prop
  | [], [] => True
  | v :: vs, a :: as => R v a ∧ All2 R vs as
  | _, _ => False
theorem All2.len {α : Type} {R : V → α → Prop} : ∀ {xs : List V} {as : List α}, All2 R xs as → xs.length = as.length
  | [], [], _ => rfl
  | _ :: _, _ :: _, h => congrArg Nat.succ (All2.len h.2)
  | [], _ :: _, h => h.elim
  | _ :: _, [], h => h.elim
theorem All2.get {α : Type} {R : V → α → Prop} : ∀ {xs : List V} {as : List α} {i : Nat} {x : V}, All2 R xs as → xs[i]? = some x → ∃ a, as[i]? = some a ∧ R x a
  | [], [], i, x, _, e => by simp at e
  | v :: vs, a :: as, 0, x, h, e => ⟨a, rfl, by rw [← Option.some.inj e]; exact h.1⟩
  | v :: vs, a :: as, i + 1, x, h, e => All2.get (xs := vs) (as := as) (i := i) h.2 e
  | [], _ :: _, _, _, h, _ => h.elim
  | _ :: _, [], _, _, h, _ => h.elim
theorem All2.at {α : Type} {R : V → α → Prop} : ∀ {xs : List V} {as : List α} {i : Nat} {a : α}, All2 R xs as → as[i]? = some a → ∃ x, xs[i]? = some x ∧ R x a
  | [], [], i, x, _, e => by simp at e
  | v :: vs, a :: as, 0, x, h, e => ⟨v, rfl, by rw [← Option.some.inj e]; exact h.1⟩
  | v :: vs, a :: as, i + 1, x, h, e => All2.at (xs := vs) (as := as) (i := i) h.2 e
  | [], _ :: _, _, _, h, _ => h.elim
  | _ :: _, [], _, _, h, _ => h.elim
theorem All2.mono {α : Type} {R S : V → α → Prop} (f : ∀ x a, R x a → S x a) : ∀ {xs : List V} {as : List α}, All2 R xs as → All2 S xs as
  | [], [], _ => True.intro
  | _ :: _, _ :: _, h => ⟨f _ _ h.1, All2.mono f h.2⟩
  | [], _ :: _, h => h.elim
  | _ :: _, [], h => h.elim
theorem All2.snoc {α : Type} {R : V → α → Prop} {x : V} {a : α} (r : R x a) : ∀ {xs : List V} {as : List α}, All2 R xs as → All2 R (xs ++ [x]) (as ++ [a])
  | [], [], _ => ⟨r, True.intro⟩
  | _ :: _, _ :: _, h => ⟨h.1, All2.snoc r h.2⟩
  | [], _ :: _, h => h.elim
  | _ :: _, [], h => h.elim
abbrev Tri := Int × Int × Int
def triV (t : Tri) : List V := [.int t.1, .int t.2.1, .int t.2.2]
def TriAt (K : PySem.W.Frag) (H : Hp) (v : V) (t : Tri) : Prop := ∃ a, v = .ref a ∧ SqT K H a (triV t)
def FigT (K : PySem.W.Frag) (H : Hp) (v : V) (f : List Tri) : Prop := ∃ a xs, v = .ref a ∧ SqT K H a xs ∧ All2 (TriAt K H) xs f
/-- tuples stay -/
def TS (K : PySem.W.Frag) (H H' : Hp) : Prop := ∀ a xs, SqT K H a xs → SqT K H' a xs
theorem TS.refl {K : PySem.W.Frag} {H : Hp} : TS K H H := fun _ _ h => h
theorem TS.trans {K : PySem.W.Frag} {H H1 H2 : Hp} (x : TS K H H1) (y : TS K H1 H2) : TS K H H2 := fun a xs h => y a xs (x a xs h)
theorem TS.of {K : PySem.W.Frag} {H H' : Hp} (e : Same H H') : TS K H H' := fun a xs h => Same.tup e h
theorem TS.but {K : PySem.W.Frag} {H H' : Hp} {b : Addr} {ys : List V} (e : Off b H H') (hb : H b = some (.lst ys)) : TS K H H' := fun a xs h => by
  rcases h with (h | ⟨o, h⟩) | h
  · exact .inl (.inl (e _ _ (fun z => by rw [z, hb] at h; cases h) h))
  · exact .inl (.inr ⟨o, e _ _ (fun z => by rw [z, hb] at h; cases h) h⟩)
  · exact .inr h
theorem TS.bag {K : PySem.W.Frag} {H H' : Hp} {b c : Addr} (e : Off b H H') (h : Bag H b c) : TS K H H' := by
  obtain ⟨cells, a, r, s, h1, _⟩ := h.ex
  exact TS.but e h1
theorem TS.upd {K : PySem.W.Frag} {H : Hp} {D : Addr} {ys : List V} {o : HO} (hD : H D = some (.lst ys)) : TS K H (upd H D o) := TS.but Off.upd hD
theorem TriAt.ts {K : PySem.W.Frag} {H H' : Hp} (e : TS K H H') {v : V} {t : Tri} (h : TriAt K H v t) : TriAt K H' v t := by
  obtain ⟨a, h1, h2⟩ := h
  exact ⟨a, h1, e _ _ h2⟩
theorem FigT.ts {K : PySem.W.Frag} {H H' : Hp} (e : TS K H H') {v : V} {f : List Tri} (h : FigT K H v f) : FigT K H' v f := by
  obtain ⟨a, xs, h1, h2, h3⟩ := h
  exact ⟨a, xs, h1, e _ _ h2, h3.mono fun _ _ => TriAt.ts e⟩
theorem Off.new {b D : Addr} {H H' : Hp} {o : HO} (e : Off b H H') (n : H D = none) : Off b H (L2.upd H' D o) := fun a x h q => by
  rw [upd_ne (ne_of_none q n)]
  exact e a x h q
/-- what a book asks of a figure -/
structure GoodT (cs : List Int) (t : Tri) : Prop where
  p0 : 0 ≤ t.1
  p1 : t.1 < cs.length
  n0 : 0 ≤ t.2.1
  n1 : t.2.1 < cs.getD t.1.toNat 0
  d0 : 1 ≤ t.2.2
  d1 : t.2.2 ≤ 3
structure GoodF (cs : List Int) (f : List Tri) : Prop where
  ne : f ≠ []
  all : ∀ t ∈ f, GoodT cs t
  up : (f.map (·.1)).Pairwise (· < ·)
theorem rise_len : ∀ {l : List Int} {lo hi : Int}, l.Pairwise (· < ·) → (∀ x ∈ l, lo ≤ x ∧ x < hi) → lo ≤ hi → (l.length : Int) ≤ hi - lo
  | [], lo, hi, _, _, h => by
    show (0 : Int) ≤ _
    omega
  | x :: l, lo, hi, p, a, h => by
    have hx := a x List.mem_cons_self
    have p2 := List.pairwise_cons.mp p
    have := rise_len (l := l) (lo := x + 1) (hi := hi) p2.2 (fun y hy => ⟨by have := p2.1 y hy; omega, (a y (List.mem_cons_of_mem _ hy)).2⟩) (by omega)
    rw [List.length_cons]
    omega
theorem GoodF.len {cs : List Int} {f : List Tri} (h : GoodF cs f) : f.length ≤ cs.length := by
  have := rise_len (lo := 0) (hi := cs.length) h.up (fun x hx => by
    obtain ⟨t, ht, rfl⟩ := List.mem_map.mp hx
    exact ⟨(h.all t ht).p0, (h.all t ht).p1⟩) (by omega)
  rw [List.length_map] at this
  omega
theorem tri_data {K : PySem.W.Frag} {H : Hp} : ∀ {xs : List V} {fg : List Tri}, All2 (TriAt K H) xs fg → ∃ ds : List PyData, DpAll K H xs ds ∧ SeqAt.shaped (.list ds) = true ∧ PyData.eqv (.list ds) (.list []) = decide (fg = []) := by
  intro xs fg h
  refine ⟨fg.map fun t => .tuple [.int t.1, .int t.2.1, .int t.2.2], ?_, ?_, ?_⟩
  · induction fg generalizing xs with
    | nil =>
      cases xs with
      | nil => exact .nil
      | cons _ _ => exact h.elim
    | cons t r ih =>
      cases xs with
      | nil => exact h.elim
      | cons x l =>
        obtain ⟨a, e, ha⟩ := h.1
        subst e
        exact .cons (.tup ha (.cons (.int _) (.cons (.int _) (.cons (.int _) .nil)))) (ih h.2)
  · have h1 : ∀ l : List Tri, PyData.canLayAll0 (l.map fun t => .tuple [.int t.1, .int t.2.1, .int t.2.2]) = true := fun l => by
      induction l with
      | nil => rfl
      | cons t r ih => simp [PyData.canLayAll0, PyData.canLay0, ih]
    have h2 : ∀ l : List Tri, PyData.depthAll (l.map fun t => .tuple [.int t.1, .int t.2.1, .int t.2.2]) ≤ 1 := fun l => by
      induction l with
      | nil => simp [PyData.depthAll]
      | cons t r ih =>
        simp only [List.map_cons, PyData.depthAll, PyData.depth]
        omega
    have h3 := h1 fg
    have h4 := h2 fg
    have h5 : PyData.depth (.list (fg.map fun t => .tuple [.int t.1, .int t.2.1, .int t.2.2])) ≤ 64 := by
      simp only [PyData.depth]
      omega
    show (PyData.canLay0 _ && decide (PyData.depth _ ≤ 64)) = true
    rw [Bool.and_eq_true]
    exact ⟨by simp only [PyData.canLay0]; exact h3, decide_eq_true h5⟩
  · cases fg with
    | nil => simp [PyData.eqv, PyData.eqvAll]
    | cons _ _ => simp [PyData.eqv, PyData.eqvAll]
/-! ### _law_hues -/
abbrev sHues : Stmt := topS 55
abbrev nHues : List Str := ["_law_bag_here", "_law_most", "_law_pad"]
theorem scHues : FnScope nHues ["_law_bag_here", "_law_most"] (defScope sHues) := ⟨rfl, rfl, rfl, by decide +kernel, rfl, by decide +kernel, by decide +kernel⟩
def spHues : Sp := fun vs H Q _ => ∃ (b c : Addr) (most : Nat), vs = [.ref b, .int (most : Nat)] ∧ Bag H b c ∧ 0 < most ∧ most ≤ 100 ∧
  ∀ (H' : Hp) (p : Addr) (cs : List Int), Off b H H' → Bag H' b c → H p = none → p ≠ b → H' p = some (.lst (cs.map V.int)) → 1 ≤ cs.length → cs.length ≤ most → (∀ x ∈ cs, (1 : Int) ≤ x ∧ x ≤ 4) → Q (.ref p) H'
section
variable {P : Program} {w : World} {K : PySem.W.Frag} {mg : Str → Option Value} {base : Heap}
theorem ok_hues {f fP fO : Addr} {fd fdP fdO : FuncData} {k : Nat} (F : Fun K "_law_hues" "_law_hues" sHues f fd) (mr : mg "range" = none)
    (FP : Fun K "_law_pull" "_law_pull" sPull fP fdP) (bP : Binds K fdP ["_law_bag_here", "_law_size"] []) (gP : mg "_law_pull" = some (.ref fP)) (GP : FnOk P w K mg base CX0 k fP fdP ["_law_bag_here", "_law_size"] spPull)
    (FO : Fun K "_law_of" "_law_of" sOf fO fdO) (bO : Binds K fdO ["_law_bag_here", "_law_things"] []) (gO : mg "_law_of" = some (.ref fO)) (GO : FnOk P w K mg base CX0 k fO fdO ["_law_bag_here", "_law_things"] spOf) :
    FnOk P w K mg base CX0 (k + 1) f fd ["_law_bag_here", "_law_most"] spHues := by
  refine F.ok scHues (fun vs H Q E h => ?_) (fun cdv A outer s H vs Q E hr h => ?_)
  · obtain ⟨b, c, most, rfl, _⟩ := h
    rfl
  · obtain ⟨b, c, most, rfl, hB, h0, h1, q⟩ := h
    refine ⟨_, pss_one (ps_ret (pe_lc (own := [("_law_pad", 2)]) (g := gName 2) (tt := tYes) rfl scHues.nd (pi_range1 (by rfl) mr (pa_cons (pe_op op_add pe_int (pe_call GP hr (by rfl) gP FP.kp bP .nil pass0 (pa_cons (pv 0) (pa_cons (pv 1) pa_nil)))) pa_nil))
      (blkOk_by (own := [("_law_pad", 2)]) (N := nHues) (sc := defScope sHues) (by decide +kernel)) (fun _ _ _ _ _ => pg_name (i := 2) scHues.nd rfl (Or.inl rfl)) (fun _ _ _ _ _ => pts_nil)
      (fun _ _ _ _ _ => pe_call GO hr (by rfl) gO FO.kp bO .nil pass0 (pa_cons (pv 0) (pa_cons (pe_lst (pa_cons pe_int (pa_cons pe_int (pa_cons pe_int (pa_cons pe_int (pa_cons pe_int pa_nil)))))) pa_nil))))), ?_⟩
    refine ⟨.ref b, rfl, .int (most : Nat), rfl, b, c, most, rfl, hB, by omega, ?_, fun H2 r off2 hB2 r0 r1 => ?_⟩
    · rw [Int.natAbs_natCast]
      exact Nat.lt_of_le_of_lt h1 (by decide)
    obtain ⟨n, rfl⟩ := Int.eq_ofNat_of_zero_le r0
    refine ⟨1, (n : Int), rfl, rfl, 1 + (n : Int), rfl, by omega, by omega, fun D nD => ?_⟩
    have hne := hB2.ne nD
    have hDH : H D = none := by
      cases e : H D with
      | none => rfl
      | some o =>
        rw [off2 D o hne.1 e] at nD
        cases nD
    refine lc_range (lo := 0) (n := (1 + (n : Int)).toNat) (fun i H' => Bag H' b c ∧ Off b H H' ∧ ∃ cs : List Int, cs.length = i ∧ H' D = some (.lst (cs.map V.int)) ∧ ∀ x ∈ cs, (1 : Int) ≤ x ∧ x ≤ 4) ⟨hB2.same (same_upd nD), off2.trans (Off.same (same_upd nD)), [], rfl, upd_same, fun x hx => by cases hx⟩ (fun i H' hi hP => ?_) (fun H' hP => ?_)
    · obtain ⟨hB4, off4, cs, hx, hD, hc⟩ := hP
      refine ⟨rfl, yesT ⟨.ref b, rfl, (show (5 : Nat) ≤ sizeLine by decide), fun t nt => ?_⟩⟩
      have u1 := same_upd (o := .lst [V.int 2, V.int 3, V.int 2, V.int 4, V.int 1]) nt
      refine ⟨b, c, t, _, rfl, hB4.same u1, upd_same, (hB4.ne nt).1, (show (0 : Nat) < 5 by decide), (show (5 : Nat) ≤ 1000 by decide), fun H5 v off5 hB5 hv => ?_⟩
      obtain ⟨x, rfl, hx1⟩ : ∃ x : Int, v = .int x ∧ 1 ≤ x ∧ x ≤ 4 := by
        simp only [List.mem_cons, List.not_mem_nil, or_false] at hv
        rcases hv with rfl | rfl | rfl | rfl | rfl
        · exact ⟨2, rfl, by decide⟩
        · exact ⟨3, rfl, by decide⟩
        · exact ⟨2, rfl, by decide⟩
        · exact ⟨4, rfl, by decide⟩
        · exact ⟨1, rfl, by decide⟩
      refine ⟨_, off5 _ _ hne.1 (u1 _ _ hD), ?_, hB5.upd hne, ((off4.trans (Off.same u1)).trans off5).new hDH, cs ++ [x], ?_, ?_, ?_⟩
      · rw [List.length_map]
        exact small1000 (by omega)
      · rw [List.length_append, hx]
        rfl
      · rw [upd_same, List.map_append]
        rfl
      · intro y hy
        rcases List.mem_append.mp hy with hy | hy
        · exact hc y hy
        · rw [List.mem_singleton.mp hy]
          exact hx1
    · obtain ⟨hB4, off4, cs, hx, hD, hc⟩ := hP
      exact q H' D cs off4 hB4 hDH hne.1 hD (by omega) (by omega) hc
end
/-! ### _law_shape -/
abbrev sShape : Stmt := topS 56
abbrev nShape : List Str := ["_law_bag_here", "_law_colours", "_law_found", "_law_pad"]
theorem scShape : FnScope nShape ["_law_bag_here", "_law_colours"] (defScope sShape) := ⟨rfl, rfl, rfl, by decide +kernel, rfl, by decide +kernel, by decide +kernel⟩
def spShape (K : PySem.W.Frag) : Sp := fun vs H Q _ => ∃ (b c p : Addr) (cs : List Int), vs = [.ref b, .ref p] ∧ Bag H b c ∧ H p = some (.lst (cs.map V.int)) ∧ p ≠ b ∧ 1 ≤ cs.length ∧ cs.length ≤ 6 ∧ (∀ x ∈ cs, (1 : Int) ≤ x ∧ x ≤ 4) ∧
  ∀ H' v f, Off b H H' → Bag H' b c → FigT K H' v f → GoodF cs f → Q v H'
theorem cs_at {cs : List Int} {i : Nat} (h : i < cs.length) : atI (cs.map V.int) (i : Int) = some (.int (cs.getD i 0)) := by
  refine atI_nat ?_
  rw [List.getElem?_map, List.getElem?_eq_getElem h, List.getD_eq_getElem?_getD, List.getElem?_eq_getElem h]
  rfl
theorem cs_in {cs : List Int} {i : Nat} (h : i < cs.length) (a : ∀ x ∈ cs, (1 : Int) ≤ x ∧ x ≤ 4) : 1 ≤ cs.getD i 0 ∧ cs.getD i 0 ≤ 4 := by
  rw [List.getD_eq_getElem?_getD, List.getElem?_eq_getElem h]
  exact a _ (List.getElem_mem h)
section
variable {P : Program} {w : World} {K : PySem.W.Frag} {mg : Str → Option Value} {base : Heap}
theorem ok_shape {f fP fO : Addr} {fd fdP fdO : FuncData} {k : Nat} (F : Fun K "_law_shape" "_law_shape" sShape f fd) (mr : mg "range" = none) (ml : mg "len" = none) (mt : mg "tuple" = none)
    (FP : Fun K "_law_pull" "_law_pull" sPull fP fdP) (bP : Binds K fdP ["_law_bag_here", "_law_size"] []) (gP : mg "_law_pull" = some (.ref fP)) (GP : FnOk P w K mg base CX0 k fP fdP ["_law_bag_here", "_law_size"] spPull)
    (FO : Fun K "_law_of" "_law_of" sOf fO fdO) (bO : Binds K fdO ["_law_bag_here", "_law_things"] []) (gO : mg "_law_of" = some (.ref fO)) (GO : FnOk P w K mg base CX0 k fO fdO ["_law_bag_here", "_law_things"] spOf) :
    FnOk P w K mg base CX0 (k + 1) f fd ["_law_bag_here", "_law_colours"] (spShape K) := by
  refine F.ok scShape (fun vs H Q E h => ?_) (fun cdv A outer s H vs Q E hr h => ?_)
  · obtain ⟨b, c, p, cs, rfl, _⟩ := h
    rfl
  · obtain ⟨b, c, p, cs, rfl, hB, hp, hpb, h1, h6, hcs, q⟩ := h
    refine ⟨_, pss_cons (ps_set (i := 2) scShape.nd rfl (.inl rfl) (pe_lst pa_nil))
      (pss_cons (ps_for PassesOwn.never rfl (pi_range1 (by rfl) mr (pa_cons (pe_callB call_lenQ (by rfl) ml PySem.boot_len (pa_cons (pv 1) pa_nil)) pa_nil)) (pg_name (i := 3) scShape.nd rfl (.inl rfl))
        (pss_one (ps_if (pt_cmpR op_lt (pe_call GP hr (by rfl) gP FP.kp bP .nil pass0 (pa_cons (pv 0) (pa_cons pe_int pa_nil))) pe_int (nomark _))
          (pss_one (ps_expr (pe_bm PySem.F.plainAttrs_list PySem.F.slot_list_append PySem.F.type_list_append mt_append (pv 2) (pa_cons (pe_tup (pa_cons (pv 3)
            (pa_cons (pe_call GP hr (by rfl) gP FP.kp bP .nil pass0 (pa_cons (pv 0) (pa_cons (pe_ix ix_list (pv 1) (pv 3) (fun _ _ => rfl)) pa_nil)))
            (pa_cons (pe_call GO hr (by rfl) gO FO.kp bO .nil pass0 (pa_cons (pv 0) (pa_cons (pe_lst (pa_cons pe_int (pa_cons pe_int (pa_cons pe_int (pa_cons pe_int (pa_cons pe_int pa_nil)))))) pa_nil))) pa_nil)))) pa_nil)))) pss_nil)))
      (C8.pss_cut (ps_if (pt_cmpR (op_eqD hr.units) (pv 2) (pe_lst pa_nil) (nomark _))
          (pss_cons (ps_set (i := 3) scShape.nd rfl (.inl rfl) (pe_call GP hr (by rfl) gP FP.kp bP .nil pass0 (pa_cons (pv 0) (pa_cons (pe_callB call_lenQ (by rfl) ml PySem.boot_len (pa_cons (pv 1) pa_nil)) pa_nil))))
          (pss_one (ps_expr (pe_bm PySem.F.plainAttrs_list PySem.F.slot_list_append PySem.F.type_list_append mt_append (pv 2) (pa_cons (pe_tup (pa_cons (pv 3)
            (pa_cons (pe_call GP hr (by rfl) gP FP.kp bP .nil pass0 (pa_cons (pv 0) (pa_cons (pe_ix ix_list (pv 1) (pv 3) (fun _ _ => rfl)) pa_nil)))
            (pa_cons (pe_op op_add pe_int (pe_call GP hr (by rfl) gP FP.kp bP .nil pass0 (pa_cons (pv 0) (pa_cons pe_int pa_nil)))) pa_nil)))) pa_nil))))) pss_nil)
      (pss_one (ps_ret (pe_callTy call_tupS (by rfl) mt (by decide +kernel) (pa_cons (pv 2) pa_nil)))))), ?_⟩
    refine ⟨Nat.zero_le _, fun D nD => ?_⟩
    have hne := hB.ne nD
    refine ⟨.ref p, rfl, p, _, rfl, .inl (SqL.of (same_upd nD _ _ hp)), ((cs.map V.int).length : Nat), rfl, by rw [List.length_map]; omega, by rw [List.length_map]; omega, ?_⟩
    rw [show (((cs.map V.int).length : Nat) : Int).toNat = cs.length by rw [List.length_map, Int.toNat_natCast]]
    refine for_range (lo := 0) (n := cs.length) (fun i σ H' => ∃ (y3 : Option V) (xs : List V) (fg : List Tri), σ = [some (.ref b), some (.ref p), some (.ref D), y3] ∧ Bag H' b c ∧ Off b H H' ∧ H' D = some (.lst xs) ∧ All2 (TriAt K H') xs fg ∧ (∀ t ∈ fg, GoodT cs t ∧ t.1 < (i : Int)) ∧ (fg.map (·.1)).Pairwise (· < ·) ∧ fg.length ≤ i)
      ⟨none, [], [], rfl, hB.same (same_upd nD), Off.same (same_upd nD), upd_same, True.intro, fun t ht => (by cases ht), List.Pairwise.nil, Nat.le_refl _⟩ ?_ ?_
    · rintro i σ H' hi ⟨y3, xs, fg, rfl, hB4, off4, hD, hA, hG, hU, hl⟩
      refine ⟨.ref b, rfl, b, c, 5, rfl, hB4, by decide, by decide, fun H5 r off5 hB5 _ _ => ?_⟩
      have ts5 : TS K H' H5 := TS.bag off5 hB4
      have hD5 := off5 _ _ hne.1 hD
      refine ⟨r, 2, rfl, rfl, _, rfl, ite2 (fun e => ?_) (fun e => ?_)⟩
      · have hp5 := (off4.trans off5) _ _ hpb hp
        have hci := cs_in hi hcs
        refine ⟨.ref D, rfl, .inl ⟨rfl, _, SqL.of hD5⟩, .int (0 + (i : Int)), rfl, ?_⟩
        refine ⟨.ref b, rfl, .ref p, rfl, .int (0 + (i : Int)), rfl, p, _, 0 + (i : Int), .int (cs.getD i 0), rfl, rfl, SqL.of hp5, by rw [Int.zero_add]; exact cs_at hi, ?_⟩
        refine ⟨b, c, cs.getD i 0, rfl, hB5, by omega, ?_, fun H6 n off6 hB6 n0 n1 => ?_⟩
        · have : (cs.getD i 0).natAbs ≤ 4 := by omega
          exact Nat.lt_of_le_of_lt this (by decide)
        refine ⟨.ref b, rfl, (show (5 : Nat) ≤ sizeLine by decide), fun t nt => ?_⟩
        have u1 := same_upd (o := .lst [V.int 1, V.int 1, V.int 2, V.int 1, V.int 3]) nt
        refine ⟨b, c, t, _, rfl, hB6.same u1, upd_same, (hB6.ne nt).1, (show (0 : Nat) < 5 by decide), (show (5 : Nat) ≤ 1000 by decide), fun H7 v off7 hB7 hv => ?_⟩
        obtain ⟨d, rfl, hd⟩ : ∃ d : Int, v = .int d ∧ 1 ≤ d ∧ d ≤ 3 := by
          simp only [List.mem_cons, List.not_mem_nil, or_false] at hv
          rcases hv with rfl | rfl | rfl | rfl | rfl
          · exact ⟨1, rfl, by decide⟩
          · exact ⟨1, rfl, by decide⟩
          · exact ⟨2, rfl, by decide⟩
          · exact ⟨1, rfl, by decide⟩
          · exact ⟨3, rfl, by decide⟩
        have ts7 : TS K H5 H7 := (TS.bag off6 hB5).trans ((TS.of u1).trans (TS.bag off7 (hB6.same u1)))
        refine ⟨(show (3 : Nat) ≤ sizeLine by decide), fun tt ntt => ?_⟩
        have u2 := same_upd (o := .tup [V.int (0 + (i : Int)), V.int n, V.int d]) ntt
        have hD7 := u2 _ _ (off7 _ _ hne.1 (u1 _ _ (off6 _ _ hne.1 hD5)))
        refine ⟨D, _, _, rfl, rfl, hD7, ?_, ?_⟩
        · rw [hA.len]
          exact small1000 (by omega)
        · refine ⟨_, xs ++ [.ref tt], fg ++ [(0 + (i : Int), n, d)], rfl, (hB7.same u2).upd hne, ((((off4.trans off5).trans off6).trans (Off.same u1)).trans (off7.trans (Off.same u2))).new nD, upd_same, ?_, ?_, ?_, ?_⟩
          · refine All2.snoc ⟨tt, rfl, TS.upd hD7 _ _ (SqT.of upd_same)⟩ (hA.mono fun _ _ => TriAt.ts (ts5.trans (ts7.trans ((TS.of u2).trans (TS.upd hD7)))))
          · intro t ht
            rcases List.mem_append.mp ht with ht | ht
            · exact ⟨(hG t ht).1, by have := (hG t ht).2; omega⟩
            · rw [List.mem_singleton.mp ht]
              refine ⟨⟨by show (0 : Int) ≤ 0 + (i : Int); omega, by show 0 + (i : Int) < _; omega, n0, ?_, hd.1, hd.2⟩, by show 0 + (i : Int) < _; omega⟩
              show n < cs.getD (0 + (i : Int)).toNat 0
              rw [Int.zero_add, Int.toNat_natCast]
              exact n1
          · rw [List.map_append, List.pairwise_append]
            refine ⟨hU, List.pairwise_singleton _ _, fun x hx y hy => ?_⟩
            obtain ⟨t, ht, rfl⟩ := List.mem_map.mp hx
            rw [List.mem_singleton.mp hy]
            have := (hG t ht).2
            show t.1 < 0 + (i : Int)
            omega
          · rw [List.length_append]
            show fg.length + 1 ≤ i + 1
            omega
      · exact ⟨_, xs, fg, rfl, hB5, off4.trans off5, hD5, hA.mono fun _ _ => TriAt.ts ts5, fun t ht => ⟨(hG t ht).1, by have := (hG t ht).2; omega⟩, hU, by omega⟩
    · rintro σ H' ⟨y3, xs, fg, rfl, hB4, off4, hD, hA, hG, hU, hl⟩
      refine ⟨fun σ' H2 => ∃ (y3 : Option V) (xs : List V) (fg : List Tri), σ' = [some (.ref b), some (.ref p), some (.ref D), y3] ∧ Bag H2 b c ∧ Off b H H2 ∧ H2 D = some (.lst xs) ∧ All2 (TriAt K H2) xs fg ∧ GoodF cs fg, ?_, ?_⟩
      · refine ⟨.ref D, rfl, Nat.zero_le _, fun e ne => ?_⟩
        have u1 := same_upd (o := .lst []) ne
        obtain ⟨ds, hds, hsh, hev⟩ : ∃ ds : List PyData, DpAll K (upd H' e (.lst [])) xs ds ∧ SeqAt.shaped (.list ds) = true ∧ PyData.eqv (.list ds) (.list []) = decide (fg = []) := tri_data (hA.mono fun _ _ => TriAt.ts (TS.of u1))
        refine ⟨.list ds, .list [], .lst (SqL.of (u1 _ _ hD)) hds, .lst (SqL.of upd_same) .nil, hsh, by decide, ?_⟩
        rw [hev]
        refine ⟨_, rfl, ite2 (fun e => ?_) (fun e => ?_)⟩
        · have hfg : fg = [] := of_decide_eq_true e
          subst hfg
          have hxs : xs = [] := List.eq_nil_of_length_eq_zero hA.len
          subst hxs
          have hB5 := hB4.same u1
          have hD5 := u1 _ _ hD
          have off5 := off4.trans (Off.same u1)
          generalize upd H' _ (.lst []) = H5 at hB5 hD5 off5 ⊢
          have hp5 := off5 _ _ hpb hp
          refine ⟨.ref b, rfl, .ref p, rfl, p, _, rfl, .inl (SqL.of hp5), b, c, _, rfl, hB5, by rw [List.length_map]; omega, ?_, fun H6 r off6 hB6 r0 r1 => ?_⟩
          · rw [Int.natAbs_natCast, List.length_map]
            exact Nat.lt_of_le_of_lt h6 (by decide)
          rw [List.length_map] at r1
          obtain ⟨i, rfl⟩ := Int.eq_ofNat_of_zero_le r0
          have hi : i < cs.length := by omega
          have hci := cs_in hi hcs
          have hp6 := off6 _ _ hpb hp5
          have hD6 := off6 _ _ hne.1 hD5
          refine ⟨.ref D, rfl, .inl ⟨rfl, _, SqL.of hD6⟩, .int (i : Nat), rfl, ?_⟩
          refine ⟨.ref b, rfl, .ref p, rfl, .int (i : Nat), rfl, p, _, (i : Int), .int (cs.getD i 0), rfl, rfl, SqL.of hp6, cs_at hi, ?_⟩
          refine ⟨b, c, cs.getD i 0, rfl, hB6, by omega, ?_, fun H7 n off7 hB7 n0 n1 => ?_⟩
          · have : (cs.getD i 0).natAbs ≤ 4 := by omega
            exact Nat.lt_of_le_of_lt this (by decide)
          refine ⟨.ref b, rfl, b, c, 3, rfl, hB7, by decide, by decide, fun H8 d off8 hB8 d0 d1 => ⟨1, d, rfl, rfl, (show (3 : Nat) ≤ sizeLine by decide), fun tt ntt => ?_⟩⟩
          have u2 := same_upd (o := .tup [V.int (i : Int), V.int n, V.int (1 + d)]) ntt
          have hD8 := u2 _ _ (off8 _ _ hne.1 (off7 _ _ hne.1 hD6))
          refine ⟨D, _, _, rfl, rfl, hD8, by decide, ?_⟩
          refine ⟨_, [.ref tt], [((i : Int), n, 1 + d)], rfl, (hB8.same u2).upd hne, (((off5.trans off6).trans off7).trans (off8.trans (Off.same u2))).new nD, upd_same, ⟨⟨tt, rfl, TS.upd hD8 _ _ (SqT.of upd_same)⟩, True.intro⟩, ⟨List.cons_ne_nil _ _, fun t ht => ?_, List.pairwise_singleton _ _⟩⟩
          rw [List.mem_singleton.mp ht]
          refine ⟨by show (0 : Int) ≤ (i : Int); omega, by show (i : Int) < _; omega, n0, ?_, by show (1 : Int) ≤ 1 + d; omega, by show 1 + d ≤ (3 : Int); omega⟩
          show n < cs.getD (i : Int).toNat 0
          rw [Int.toNat_natCast]
          exact n1
        · exact ⟨_, xs, fg, rfl, hB4.same u1, off4.trans (Off.same u1), u1 _ _ hD, hA.mono fun _ _ => TriAt.ts (TS.of u1), ⟨fun z => e (decide_eq_true z), fun t ht => (hG t ht).1, hU⟩⟩
      · rintro σ' H2 ⟨y3, xs, fg, rfl, hB5, off5, hD5, hA5, hG5⟩
        refine ⟨.ref D, rfl, D, _, rfl, .inl (SqL.of hD5), fun l H6 s6 hl6 => ?_⟩
        exact q H6 _ fg (off5.trans (Off.same s6)) (hB5.same s6) ⟨l, xs, rfl, hl6, hA5.mono fun _ _ => TriAt.ts (TS.of s6)⟩ hG5
end
/-! ### who bars whom: the mathematics -/
/-- the note that a figure wants on a pad (of two the later) -/
def noteOf (f : List Tri) (p : Int) : Option Int := f.foldl (fun acc t => if p = t.1 then some t.2.1 else acc) none
theorem noteOf_go (p : Int) : ∀ (f : List Tri) (acc : Option Int), f.foldl (fun acc t => if p = t.1 then some t.2.1 else acc) acc = (noteOf f p).or acc
  | [], acc => by simp [noteOf]
  | t :: r, acc => by
    unfold noteOf
    rw [List.foldl_cons, List.foldl_cons, noteOf_go p r, noteOf_go p r (if p = t.1 then some t.2.1 else none)]
    by_cases h : p = t.1
    · rw [if_pos h, if_pos h]
      cases noteOf r p <;> rfl
    · rw [if_neg h, if_neg h]
      cases noteOf r p <;> rfl
theorem noteOf_cons (t : Tri) (r : List Tri) (p : Int) : noteOf (t :: r) p = (noteOf r p).or (if p = t.1 then some t.2.1 else none) := by
  show List.foldl _ _ (t :: r) = _
  rw [List.foldl_cons, noteOf_go]
theorem noteOf_snoc (f : List Tri) (t : Tri) (p : Int) : noteOf (f ++ [t]) p = if p = t.1 then some t.2.1 else noteOf f p := by
  unfold noteOf
  rw [List.foldl_append]
  rfl
theorem noteOf_some {f : List Tri} {p n : Int} (h : noteOf f p = some n) : ∃ t ∈ f, t.1 = p ∧ t.2.1 = n := by
  induction f with
  | nil => cases h
  | cons t r ih =>
    rw [noteOf_cons] at h
    cases e : noteOf r p with
    | some m =>
      rw [e] at h
      have : m = n := Option.some.inj h
      subst this
      obtain ⟨u, hu, h1, h2⟩ := ih e
      exact ⟨u, List.mem_cons_of_mem _ hu, h1, h2⟩
    | none =>
      rw [e] at h
      by_cases hp : p = t.1
      · rw [if_pos hp] at h
        exact ⟨t, List.mem_cons_self, hp.symm, Option.some.inj h⟩
      · rw [if_neg hp] at h
        cases h
theorem noteOf_none {f : List Tri} {p : Int} (h : noteOf f p = none) : ∀ t ∈ f, t.1 ≠ p := by
  induction f with
  | nil => intro t ht; cases ht
  | cons t r ih =>
    rw [noteOf_cons] at h
    cases e : noteOf r p with
    | some m => rw [e] at h; cases h
    | none =>
      rw [e] at h
      by_cases hp : p = t.1
      · rw [if_pos hp] at h
        cases h
      · intro u hu
        rcases List.mem_cons.mp hu with rfl | hu
        · exact fun z => hp z.symm
        · exact ih e u hu
theorem up_inj {f : List Tri} (h : (f.map (·.1)).Pairwise (· < ·)) {t u : Tri} (ht : t ∈ f) (hu : u ∈ f) (e : t.1 = u.1) : t = u := by
  induction f with
  | nil => cases ht
  | cons x r ih =>
    rw [List.map_cons, List.pairwise_cons] at h
    rcases List.mem_cons.mp ht with h1 | h1 <;> rcases List.mem_cons.mp hu with h2 | h2
    · rw [h1, h2]
    · have := h.1 u.1 (List.mem_map.mpr ⟨u, h2, rfl⟩)
      rw [h1] at e
      omega
    · have := h.1 t.1 (List.mem_map.mpr ⟨t, h1, rfl⟩)
      rw [h2] at e
      omega
    · exact ih h.2 h1 h2
def meetB (f g : List Tri) : Bool := f.any fun t => g.any fun u => decide (u.1 = t.1)
def barB (f g : List Tri) : Bool := g.any fun u => !decide ((noteOf f u.1).getD u.2.1 = u.2.1)
theorem meetB_iff {f g : List Tri} : meetB f g = true ↔ ∃ t ∈ f, ∃ u ∈ g, u.1 = t.1 := by
  unfold meetB
  simp only [List.any_eq_true, decide_eq_true_eq]
theorem meetB_comm (f g : List Tri) : meetB f g = meetB g f := by
  rw [Bool.eq_iff_iff, meetB_iff, meetB_iff]
  constructor
  · rintro ⟨t, ht, u, hu, e⟩
    exact ⟨u, hu, t, ht, e.symm⟩
  · rintro ⟨t, ht, u, hu, e⟩
    exact ⟨u, hu, t, ht, e.symm⟩
theorem barB_iff {f g : List Tri} (hf : (f.map (·.1)).Pairwise (· < ·)) : barB f g = true ↔ ∃ t ∈ f, ∃ u ∈ g, u.1 = t.1 ∧ u.2.1 ≠ t.2.1 := by
  unfold barB
  rw [List.any_eq_true]
  constructor
  · rintro ⟨u, hu, h⟩
    cases e : noteOf f u.1 with
    | none => rw [e] at h; simp at h
    | some n =>
      rw [e] at h
      obtain ⟨t, ht, h1, h2⟩ := noteOf_some e
      refine ⟨t, ht, u, hu, h1.symm, fun z => ?_⟩
      simp only [Option.getD_some, Bool.not_eq_true', decide_eq_false_iff_not] at h
      exact h (by rw [← h2, z])
  · rintro ⟨t, ht, u, hu, h1, h2⟩
    refine ⟨u, hu, ?_⟩
    cases e : noteOf f u.1 with
    | none => exact absurd h1.symm (noteOf_none e t ht)
    | some n =>
      obtain ⟨t', ht', h1', h2'⟩ := noteOf_some e
      have := up_inj hf ht ht' (by rw [h1', h1])
      subst this
      simp only [Option.getD_some, Bool.not_eq_true', decide_eq_false_iff_not]
      rw [← h2']
      exact fun z => h2 z.symm
theorem barB_comm {f g : List Tri} (hf : (f.map (·.1)).Pairwise (· < ·)) (hg : (g.map (·.1)).Pairwise (· < ·)) : barB f g = barB g f := by
  rw [Bool.eq_iff_iff, barB_iff hf, barB_iff hg]
  constructor
  · rintro ⟨t, ht, u, hu, e, n⟩
    exact ⟨u, hu, t, ht, e.symm, fun z => n z.symm⟩
  · rintro ⟨t, ht, u, hu, e, n⟩
    exact ⟨u, hu, t, ht, e.symm, fun z => n z.symm⟩
/-- the others' triples on the first one's pads -/
def commonOf (f g : List Tri) : List Tri := g.filter fun u => (noteOf f u.1).isSome
theorem commonOf_nil {f g : List Tri} : commonOf f g = [] ↔ meetB f g = false := by
  rw [← Bool.not_eq_true, meetB_iff]
  unfold commonOf
  rw [List.filter_eq_nil_iff]
  constructor
  · rintro h ⟨t, ht, u, hu, e⟩
    refine h u hu ?_
    cases e2 : noteOf f u.1 with
    | none => exact absurd e.symm (noteOf_none e2 t ht)
    | some n => rfl
  · intro h u hu e
    cases e2 : noteOf f u.1 with
    | none => rw [e2] at e; cases e
    | some n =>
      obtain ⟨t, ht, h1, _⟩ := noteOf_some e2
      exact h ⟨t, ht, u, hu, h1.symm⟩
theorem common_bar (f g : List Tri) : ((commonOf f g).any fun u => !decide ((noteOf f u.1).getD u.2.1 = u.2.1)) = barB f g := by
  unfold commonOf barB
  rw [List.any_filter]
  congr 1
  funext u
  cases noteOf f u.1 with
  | none => simp
  | some n => simp
/-- two figures of a book: apart, or barring one another -/
def okB (f g : List Tri) : Bool := !meetB f g || barB f g
/-- the figures of a book -/
structure GoodB (cs : List Int) (fs : List (List Tri)) : Prop where
  all : ∀ f ∈ fs, GoodF cs f
  two : fs.Pairwise fun g f => okB f g = true
theorem GoodB.pair {cs : List Int} {fs : List (List Tri)} (h : GoodB cs fs) {i j : Nat} {f g : List Tri} (hij : i < j) (hf : fs[i]? = some f) (hg : fs[j]? = some g) : meetB f g = true → barB f g = true := by
  intro hm
  obtain ⟨hi, rfl⟩ := List.getElem?_eq_some_iff.mp hf
  obtain ⟨hj, rfl⟩ := List.getElem?_eq_some_iff.mp hg
  have h2 := List.pairwise_iff_getElem.mp h.two i j hi hj hij
  unfold okB at h2
  rw [meetB_comm, hm] at h2
  rw [barB_comm (h.all _ (List.getElem_mem hi)).up (h.all _ (List.getElem_mem hj)).up]
  exact h2
/-- a figure's pads and notes as a dict -/
def kvsOf (f : List Tri) : List (Key × V) := f.map fun t => (Sum.inl t.1, V.int t.2.1)
theorem val_merge (p : Int) : ∀ (f : List Tri) (acc : List (Key × V)), valV (mergeK acc (kvsOf f)) (Sum.inl p) = ((noteOf f p).map V.int).or (valV acc (Sum.inl p))
  | [], acc => rfl
  | t :: r, acc => by
    have e : mergeK acc (kvsOf (t :: r)) = mergeK (putK acc (Sum.inl t.1) (.int t.2.1)) (kvsOf r) := rfl
    rw [e, val_merge p r, valV_put, noteOf_cons]
    by_cases h : p = t.1
    · rw [if_pos h, if_pos (by rw [h])]
      cases noteOf r p <;> rfl
    · rw [if_neg h, if_neg (fun z => h (Sum.inl.inj z))]
      cases noteOf r p <;> simp
theorem val_fig (f : List Tri) (p : Int) : valV (mergeK [] (kvsOf f)) (Sum.inl p) = (noteOf f p).map V.int := by
  rw [val_merge]
  cases noteOf f p <;> rfl
theorem merge_snoc (f : List Tri) (t : Tri) : mergeK [] (kvsOf (f ++ [t])) = putK (mergeK [] (kvsOf f)) (Sum.inl t.1) (.int t.2.1) := by
  unfold mergeK kvsOf
  rw [List.map_append, List.foldl_append]
  rfl
theorem putK_len' (c : List (Key × V)) (k : Key) (x : V) : (putK c k x).length ≤ c.length + 1 := by
  unfold putK
  split
  · rw [List.length_map]
    omega
  · rw [List.length_append]
    exact Nat.le_refl _
theorem merge_len (f : List Tri) : (mergeK [] (kvsOf f)).length ≤ f.length := by
  have h : ∀ (f : List Tri) (acc : List (Key × V)), (mergeK acc (kvsOf f)).length ≤ acc.length + f.length := fun f => by
    induction f with
    | nil => intro acc; exact Nat.le_refl _
    | cons t r ih =>
      intro acc
      have e : mergeK acc (kvsOf (t :: r)) = mergeK (putK acc (Sum.inl t.1) (.int t.2.1)) (kvsOf r) := rfl
      have h1 := ih (putK acc (Sum.inl t.1) (.int t.2.1))
      have h2 := putK_len' acc (Sum.inl t.1) (.int t.2.1)
      rw [e, List.length_cons]
      omega
  have := h f []
  rw [List.length_nil, Nat.zero_add] at this
  exact this
/-! ### sets of pads as numbers: the mathematics -/
theorem pow_dvd_sum (p : Nat) : ∀ (l : List Nat), (∀ x ∈ l, p < x) → 2 ^ (p + 1) ∣ (l.map (2 ^ ·)).sum
  | [], _ => ⟨0, rfl⟩
  | x :: l, h => by
    rw [List.map_cons, List.sum_cons]
    exact Nat.dvd_add (Nat.pow_dvd_pow 2 (h x List.mem_cons_self)) (pow_dvd_sum p l fun y hy => h y (List.mem_cons_of_mem _ hy))
theorem sum_bits : ∀ {l : List Nat}, l.Pairwise (· < ·) → ∀ i, (l.map (2 ^ ·)).sum.testBit i = decide (i ∈ l)
  | [], _, i => by simp
  | p :: l, h, i => by
    have h2 := List.pairwise_cons.mp h
    obtain ⟨m, hm⟩ := pow_dvd_sum p l h2.1
    have ih := sum_bits h2.2 i
    have e : ((p :: l).map (2 ^ ·)).sum = 2 ^ (p + 1) * m ||| 2 ^ p := by
      rw [List.map_cons, List.sum_cons, hm, Nat.add_comm]
      exact Nat.two_pow_add_eq_or_of_lt (Nat.pow_lt_pow_right (by decide) (Nat.lt_succ_self p)) m
    rw [e, Nat.testBit_or, ← hm, ih, Nat.testBit_two_pow]
    by_cases z : p = i
    · subst z; simp
    · simp [z, Ne.symm z]
theorem and_bits {a b : List Nat} (ha : a.Pairwise (· < ·)) (hb : b.Pairwise (· < ·)) : ((a.map (2 ^ ·)).sum &&& (b.map (2 ^ ·)).sum) ≠ 0 ↔ ∃ i, i ∈ a ∧ i ∈ b := by
  constructor
  · intro h
    obtain ⟨i, hi⟩ := Nat.exists_testBit_of_ne_zero h
    rw [Nat.testBit_and, sum_bits ha, sum_bits hb, Bool.and_eq_true, decide_eq_true_eq, decide_eq_true_eq] at hi
    exact ⟨i, hi⟩
  · rintro ⟨i, h1, h2⟩ z
    have := congrArg (fun x => Nat.testBit x i) z
    simp only [Nat.testBit_and, sum_bits ha, sum_bits hb, Nat.zero_testBit, h1, h2] at this
    simp at this
/-- the set of a figure's pads as a number -/
def maskN (f : List Tri) : Nat := (f.map fun t => 2 ^ t.1.toNat).sum
/-- pads that rise, none below nought -/
structure PadsUp (f : List Tri) : Prop where
  up : (f.map (·.1)).Pairwise (· < ·)
  lo : ∀ t ∈ f, 0 ≤ t.1
  hi : ∀ t ∈ f, t.1 ≤ 1000
theorem GoodF.padsUp {cs : List Int} {f : List Tri} (h : GoodF cs f) (h6 : cs.length ≤ 6) : PadsUp f := ⟨h.up, fun t ht => (h.all t ht).p0, fun t ht => by have := (h.all t ht).p1; omega⟩
theorem pads_nat {f : List Tri} (h : PadsUp f) : (f.map fun t => t.1.toNat).Pairwise (· < ·) := by
  have h1 := h.up
  have h2 := h.lo
  clear h
  induction f with
  | nil => exact List.Pairwise.nil
  | cons t r ih =>
    rw [List.map_cons, List.pairwise_cons] at h1 ⊢
    refine ⟨fun x hx => ?_, ih h1.2 fun u hu => h2 u (List.mem_cons_of_mem _ hu)⟩
    obtain ⟨u, hu, rfl⟩ := List.mem_map.mp hx
    have a1 := h1.1 u.1 (List.mem_map.mpr ⟨u, hu, rfl⟩)
    have a2 := h2 t List.mem_cons_self
    have a3 := h2 u (List.mem_cons_of_mem _ hu)
    omega
theorem mask_bits {f g : List Tri} (hf : PadsUp f) (hg : PadsUp g) : (maskN f &&& maskN g) ≠ 0 ↔ meetB f g = true := by
  have e : ∀ f : List Tri, maskN f = ((f.map fun t => t.1.toNat).map (2 ^ ·)).sum := fun f => by
    unfold maskN
    rw [List.map_map]
    rfl
  rw [e f, e g, and_bits (pads_nat hf) (pads_nat hg), meetB_iff]
  constructor
  · rintro ⟨i, h1, h2⟩
    obtain ⟨t, ht, e1⟩ := List.mem_map.mp h1
    obtain ⟨u, hu, e2⟩ := List.mem_map.mp h2
    have a2 := hf.lo t ht
    have a3 := hg.lo u hu
    exact ⟨t, ht, u, hu, by omega⟩
  · rintro ⟨t, ht, u, hu, e1⟩
    exact ⟨t.1.toNat, List.mem_map.mpr ⟨t, ht, rfl⟩, List.mem_map.mpr ⟨u, hu, by rw [e1]⟩⟩
/-- as the program asks: one & other != 0 -/
theorem mask_test {f g : List Tri} (hf : PadsUp f) (hg : PadsUp g) : (!decide (V.int (Builtin.bitAnd (maskN f : Nat) (maskN g : Nat)) = V.int 0)) = meetB f g := by
  rw [bitAnd_pp (by omega) (by omega), Int.toNat_natCast, Int.toNat_natCast]
  have := mask_bits hf hg
  cases e : meetB f g with
  | true =>
    rw [e] at this
    have h := this.mpr rfl
    rw [decide_eq_false (fun z => h (by have := V.int.inj z; omega))]
    rfl
  | false =>
    rw [e] at this
    have h : (maskN f &&& maskN g) = 0 := Classical.byContradiction fun z => by cases this.mp z
    rw [h]
    rfl
/-! ### _law_bars -/
abbrev sBars : Stmt := topS 57
abbrev nBars : List Str := ["_law_one", "_law_other", "_law_mine", "_law_common", "_law_pad", "_law_note", "_law_depth"]
theorem scBars : FnScope nBars ["_law_one", "_law_other"] (defScope sBars) := ⟨rfl, rfl, rfl, by decide +kernel, rfl, by decide +kernel, by decide +kernel⟩
def spBars (K : PySem.W.Frag) : Sp := fun vs H Q _ => ∃ (v u : V) (f g : List Tri), vs = [v, u] ∧ FigT K H v f ∧ FigT K H u g ∧ f.length ≤ 100 ∧ g.length ≤ 100 ∧ ∀ H', Same H H' → Q (.bl (okB f g)) H'
abbrev g3 (K : PySem.W.Frag) (i j k : Nat) : TG := gTup K 3 (gCons (gName i) (gCons (gName j) (gCons (gName k) gNil)))
abbrev g2 (K : PySem.W.Frag) (i j : Nat) : TG := gTup K 2 (gCons (gName i) (gCons (gName j) gNil))
def pairV (t : Tri) : List V := [.int t.1, .int t.2.1]
def PairAt (K : PySem.W.Frag) (H : Hp) (v : V) (t : Tri) : Prop := ∃ a, v = .ref a ∧ SqT K H a (pairV t)
theorem PairAt.ts {K : PySem.W.Frag} {H H' : Hp} (e : TS K H H') {v : V} {t : Tri} (h : PairAt K H v t) : PairAt K H' v t := by
  obtain ⟨a, h1, h2⟩ := h
  exact ⟨a, h1, e _ _ h2⟩
theorem pair_paired {K : PySem.W.Frag} {H : Hp} : ∀ {xs : List V} {f : List Tri}, All2 (PairAt K H) xs f → ∃ ps : List Addr, xs = ps.map V.ref ∧ Paired (fun p kv => SqT K H p [kV kv.1, kv.2]) ps (kvsOf f)
  | [], [], _ => ⟨[], rfl, .nil⟩
  | x :: xs, t :: f, h => by
    obtain ⟨a, rfl, ha⟩ := h.1
    obtain ⟨ps, e, hp⟩ := pair_paired h.2
    exact ⟨a :: ps, by rw [e]; rfl, .cons ha hp⟩
  | [], _ :: _, h => h.elim
  | _ :: _, [], h => h.elim
theorem pair_data {K : PySem.W.Frag} {H : Hp} : ∀ {xs : List V} {fg : List Tri}, All2 (PairAt K H) xs fg → ∃ ds : List PyData, DpAll K H xs ds ∧ SeqAt.shaped (.list ds) = true ∧ PyData.eqv (.list ds) (.list []) = decide (fg = []) := by
  intro xs fg h
  refine ⟨fg.map fun t => .tuple [.int t.1, .int t.2.1], ?_, ?_, ?_⟩
  · induction fg generalizing xs with
    | nil =>
      cases xs with
      | nil => exact .nil
      | cons _ _ => exact h.elim
    | cons t r ih =>
      cases xs with
      | nil => exact h.elim
      | cons x l =>
        obtain ⟨a, e, ha⟩ := h.1
        subst e
        exact .cons (.tup ha (.cons (.int _) (.cons (.int _) .nil))) (ih h.2)
  · have h1 : ∀ l : List Tri, PyData.canLayAll0 (l.map fun t => .tuple [.int t.1, .int t.2.1]) = true := fun l => by
      induction l with
      | nil => rfl
      | cons t r ih => simp [PyData.canLayAll0, PyData.canLay0, ih]
    have h2 : ∀ l : List Tri, PyData.depthAll (l.map fun t => .tuple [.int t.1, .int t.2.1]) ≤ 1 := fun l => by
      induction l with
      | nil => simp [PyData.depthAll]
      | cons t r ih =>
        simp only [List.map_cons, PyData.depthAll, PyData.depth]
        omega
    have h3 := h1 fg
    have h4 := h2 fg
    have h5 : PyData.depth (.list (fg.map fun t => .tuple [.int t.1, .int t.2.1])) ≤ 64 := by
      simp only [PyData.depth]
      omega
    show (PyData.canLay0 _ && decide (PyData.depth _ ≤ 64)) = true
    rw [Bool.and_eq_true]
    exact ⟨by simp only [PyData.canLay0]; exact h3, decide_eq_true h5⟩
  · cases fg with
    | nil => simp [PyData.eqv, PyData.eqvAll]
    | cons _ _ => simp [PyData.eqv, PyData.eqvAll]
theorem take_snoc {α : Type} {l : List α} {i : Nat} {a : α} (h : l[i]? = some a) : l.take (i + 1) = l.take i ++ [a] := by
  rw [List.take_add_one, h]
  rfl
section
variable {P : Program} {w : World} {K : PySem.W.Frag} {mg : Str → Option Value} {base : Heap}
theorem ok_bars {f : Addr} {fd : FuncData} {k : Nat} (F : Fun K "_law_bars" "_law_bars" sBars f fd) (md : mg "dict" = none) (ma : mg "any" = none) : FnOk P w K mg base CX0 (k + 1) f fd ["_law_one", "_law_other"] (spBars K) := by
  refine F.ok scBars (fun vs H Q E h => ?_) (fun cdv A outer s H vs Q E hr h => ?_)
  · obtain ⟨v, u, f, g, rfl, _⟩ := h
    rfl
  · obtain ⟨v, u, f, g, rfl, hV, hU, hfl, hgl, q⟩ := h
    obtain ⟨a, xs, rfl, ha, hxs⟩ := hV
    obtain ⟨b, ys, rfl, hb, hys⟩ := hU
    refine ⟨_, pss_cons (ps_set (i := 2) scBars.nd rfl (.inr rfl) (pe_callTy (call_dictP rfl) (by rfl) md (by decide +kernel) (pa_cons (pe_lc (own := [("_law_pad", 4), ("_law_note", 5), ("_law_depth", 6)]) (g := g3 K 4 5 6) (tt := tYes) rfl scBars.nd (pi_tup (pv 0))
        (blkOk_by (own := [("_law_pad", 4), ("_law_note", 5), ("_law_depth", 6)]) (N := nBars) (sc := defScope sBars) (by decide +kernel))
        (fun _ _ _ _ _ => pg_tup rfl (pgs_cons (pg_name (i := 4) scBars.nd rfl (.inl rfl)) (pgs_cons (pg_name (i := 5) scBars.nd rfl (.inl rfl)) (pgs_cons (pg_name (i := 6) scBars.nd rfl (.inl rfl)) pgs_nil)))) (fun _ _ _ _ _ => pts_nil)
        (fun _ _ _ _ _ => pe_tup (pa_cons (pv 4) (pa_cons (pv 5) pa_nil)))) pa_nil)))
      (pss_cons (ps_setLc (i := 3) (own := [("_law_pad", 4), ("_law_note", 5), ("_law_depth", 6)]) (g := g3 K 4 5 6) rfl scBars.nd rfl rfl (sw_true rfl rfl rfl (by decide +kernel)) (pi_tup (pv 1))
        (blkOk_by (own := [("_law_pad", 4), ("_law_note", 5), ("_law_depth", 6)]) (N := nBars) (sc := defScope sBars) (by decide +kernel))
        (fun _ _ _ _ _ => pg_tup rfl (pgs_cons (pg_name (i := 4) scBars.nd rfl (.inl rfl)) (pgs_cons (pg_name (i := 5) scBars.nd rfl (.inl rfl)) (pgs_cons (pg_name (i := 6) scBars.nd rfl (.inl rfl)) pgs_nil))))
        (fun _ _ _ _ _ => pts_one (pt_cmp (pc_din (hu_of hr) (pv 4) (pv 2)))) (fun _ _ _ _ _ => pe_tup (pa_cons (pv 4) (pa_cons (pv 5) pa_nil))))
      (pss_one (ps_ret (pe_or (pe_cmpR (op_eqD hr.units) (pv 3) (pe_lst pa_nil) (nomark _)) (pe_one (pe_callB (cr_any rfl) (by rfl) ma (by decide +kernel) (pa_cons (pe_lc (own := [("_law_pad", 4), ("_law_note", 5)]) (g := g2 K 4 5) (tt := tYes) rfl scBars.nd (pi_list (pv 3))
        (blkOk_by (own := [("_law_pad", 4), ("_law_note", 5)]) (N := nBars) (sc := defScope sBars) (by decide +kernel))
        (fun _ _ _ _ _ => pg_tup rfl (pgs_cons (pg_name (i := 4) scBars.nd rfl (.inl rfl)) (pgs_cons (pg_name (i := 5) scBars.nd rfl (.inl rfl)) pgs_nil))) (fun _ _ _ _ _ => pts_nil)
        (fun _ _ _ _ _ => pe_cmpR op_ne (pe_dget (hu_of hr) (pv 2) (pv 4) (fun _ _ => rfl)) (pv 5) (nomark _))) pa_nil))))))), ?_⟩
    -- mine
    refine ⟨.ref a, rfl, a, rfl, ⟨_, ha⟩, fun D nD => ?_⟩
    refine lc_tup (K := K) (a := a) (xs := xs) (fun i H' => Same H H' ∧ ∃ zs, H' D = some (.lst zs) ∧ All2 (PairAt K H') zs (f.take i)) ⟨same_upd nD, [], upd_same, True.intro⟩ (fun i H' _ hP => Same.tup hP.1 ha) (fun i x H' hx hP => ?_) (fun H1 hP => ?_)
    · obtain ⟨sm, zs, hD, hz⟩ := hP
      obtain ⟨t, ht, tp, rfl, htp⟩ := hxs.get hx
      refine ⟨tp, triV t, rfl, Same.tup sm htp, rfl, _, _, rfl, _, _, rfl, _, _, rfl, rfl, rfl, yesT ⟨_, rfl, _, rfl, (show (2 : Nat) ≤ sizeLine by decide), fun n nn => ?_⟩⟩
      have u1 := same_upd (o := .tup [V.int t.1, V.int t.2.1]) nn
      have hD1 := u1 _ _ hD
      refine ⟨_, hD1, ?_, Same.offUpd (sm.trans u1) nD, zs ++ [.ref n], upd_same, ?_⟩
      · rw [hz.len, List.length_take]
        exact small1000 (by omega)
      · rw [take_snoc ht]
        exact All2.snoc ⟨n, rfl, TS.upd hD1 _ _ (SqT.of upd_same)⟩ (hz.mono fun _ _ => PairAt.ts ((TS.of u1).trans (TS.upd hD1)))
    · obtain ⟨sm1, zs, hD, hz⟩ := hP
      rw [List.take_of_length_le (by rw [hxs.len]; exact Nat.le_refl _)] at hz
      obtain ⟨ps, rfl, hpp⟩ := pair_paired hz
      refine ⟨D, ps, kvsOf f, rfl, SqL.of hD, hpp, fun d nd => ?_⟩
      have u1 := same_upd (o := .dK (mergeK [] (kvsOf f))) nd
      have s1 := sm1.trans u1
      have hd : (upd H1 d (.dK (mergeK [] (kvsOf f)))) d = some (.dK (mergeK [] (kvsOf f))) := upd_same
      generalize upd H1 d (.dK (mergeK [] (kvsOf f))) = H2 at s1 hd ⊢
      -- common
      refine ⟨.ref b, rfl, b, rfl, ⟨_, Same.tup s1 hb⟩, fun D2 nD2 => ?_⟩
      refine lc_tup (K := K) (a := b) (xs := ys) (fun i H' => Same H2 H' ∧ ∃ zs, H' D2 = some (.lst zs) ∧ All2 (PairAt K H') zs (commonOf f (g.take i))) ⟨same_upd nD2, [], upd_same, True.intro⟩ (fun i H' _ hP => Same.tup (s1.trans hP.1) hb) (fun i x H' hx hP => ?_) (fun H3 hP => ?_)
      · obtain ⟨sm, zs, hD2, hz⟩ := hP
        obtain ⟨t, ht, tp, rfl, htp⟩ := hys.get hx
        have hl : zs.length ≤ 100 := by
          rw [hz.len]
          have := List.length_filter_le (fun u : Tri => (noteOf f u.1).isSome) (g.take i)
          rw [List.length_take] at this
          exact Nat.le_trans this (by omega)
        refine ⟨tp, triV t, rfl, Same.tup (s1.trans sm) htp, rfl, _, _, rfl, _, _, rfl, _, _, rfl, rfl, rfl, ?_⟩
        refine ⟨_, rfl, _, rfl, d, _, rfl, DGet.k (k := Sum.inl t.1) (sm _ _ hd), _, rfl, ?_⟩
        rw [val_fig]
        have cm : commonOf f (g.take (i + 1)) = commonOf f (g.take i) ++ (if (noteOf f t.1).isSome = true then [t] else []) := by
          rw [take_snoc ht]
          unfold commonOf
          rw [List.filter_append]
          congr 1
          simp only [List.filter_cons, List.filter_nil]
        cases e : noteOf f t.1 with
        | none =>
          refine iteF ⟨sm, zs, hD2, ?_⟩
          rw [cm, e, if_neg (by simp), List.append_nil]
          exact hz
        | some n0 =>
          refine iteT ⟨_, rfl, _, rfl, (show (2 : Nat) ≤ sizeLine by decide), fun n nn => ?_⟩
          have u1 := same_upd (o := .tup [V.int t.1, V.int t.2.1]) nn
          have hD1 := u1 _ _ hD2
          refine ⟨_, hD1, small1000 (by omega), Same.offUpd (sm.trans u1) nD2, zs ++ [.ref n], upd_same, ?_⟩
          rw [cm, e, if_pos (by simp)]
          exact All2.snoc ⟨n, rfl, TS.upd hD1 _ _ (SqT.of upd_same)⟩ (hz.mono fun _ _ => PairAt.ts ((TS.of u1).trans (TS.upd hD1)))
      · obtain ⟨sm2, zs, hD2, hz⟩ := hP
        rw [List.take_of_length_le (by rw [hys.len]; exact Nat.le_refl _)] at hz
        have s2 := s1.trans sm2
        have hd3 := sm2 _ _ hd
        refine ⟨.ref D2, rfl, Nat.zero_le _, fun e ne => ?_⟩
        have u1 := same_upd (o := .lst []) ne
        obtain ⟨ds, hds, hsh, hev⟩ := pair_data (hz.mono fun _ _ => PairAt.ts (TS.of u1))
        refine ⟨.list ds, .list [], .lst (SqL.of (u1 _ _ hD2)) hds, .lst (SqL.of upd_same) .nil, hsh, by decide, ?_⟩
        rw [hev]
        have s3 := s2.trans u1
        have hd4 := u1 _ _ hd3
        have hD4 := u1 _ _ hD2
        have hz4 := hz.mono fun _ _ => PairAt.ts (TS.of (K := K) u1)
        generalize upd H3 e (.lst []) = H4 at s3 hd4 hD4 hz4 ⊢
        refine ⟨_, rfl, ite2 (fun e => ?_) (fun e => ?_)⟩
        · have e1 := commonOf_nil.mp (of_decide_eq_true e)
          have := q _ s3
          unfold okB at this
          rw [e1] at this
          exact this
        · have e1 : meetB f g = true := by
            cases e2 : meetB f g with
            | true => rfl
            | false => exact absurd (decide_eq_true (commonOf_nil.mpr e2)) e
          refine ⟨.ref D2, rfl, D2, rfl, ⟨_, SqL.of hD4⟩, fun D3 nD3 => ?_⟩
          refine lc_list (K := K) (a := D2) (xs := zs) (fun i H' => Same H4 H' ∧ H' D3 = some (.lst ((((commonOf f g).take i).map fun u => !decide ((noteOf f u.1).getD u.2.1 = u.2.1)).map V.bl))) ⟨same_upd nD3, upd_same⟩ (fun i H' _ hP => SqL.of (hP.1 _ _ hD4)) (fun i x H' hx hP => ?_) (fun H5 hP => ?_)
          · obtain ⟨sm, hD3⟩ := hP
            obtain ⟨t, ht, tp, rfl, htp⟩ := hz4.get hx
            have htm : t ∈ commonOf f g := List.mem_of_getElem? ht
            have hsome := (List.mem_filter.mp htm).2
            obtain ⟨n0, hn0⟩ := Option.isSome_iff_exists.mp hsome
            refine ⟨tp, pairV t, rfl, Same.tup sm htp, rfl, _, _, rfl, _, _, rfl, rfl, rfl, yesT ?_⟩
            refine ⟨_, rfl, _, rfl, d, .int n0, rfl, ?_, _, rfl, rfl, _, hD3, ?_, Same.offUpd sm nD3, ?_⟩
            · have := DGet.k (k := Sum.inl t.1) (sm _ _ hd4)
              rw [val_fig, hn0] at this
              exact this
            · rw [List.length_map, List.length_map, List.length_take]
              have := List.length_filter_le (fun u : Tri => (noteOf f u.1).isSome) g
              have h2 : (commonOf f g).length ≤ g.length := this
              exact small1000 (by omega)
            · rw [upd_same, take_snoc ht, List.map_append, List.map_append]
              have : (!decide (V.int n0 = V.int t.2.1)) = (!decide ((noteOf f t.1).getD t.2.1 = t.2.1)) := by
                rw [hn0, Option.getD_some]
                congr 1
                rw [decide_eq_decide]
                exact ⟨fun z => V.int.inj z, fun z => by rw [z]⟩
              rw [this]
              rfl
          · obtain ⟨sm, hD3⟩ := hP
            rw [hz4.len, List.take_length] at hD3
            refine ⟨D3, _, rfl, SqL.of hD3, ?_⟩
            have := q _ (s3.trans sm)
            unfold okB at this
            rw [e1, ← common_bar] at this
            rw [List.any_map]
            exact this
end
/-! ### _law_shapes -/
abbrev sShapes : Stmt := topS 58
abbrev nShapes : List Str := ["_law_bag_here", "_law_colours", "_law_most", "_law_found", "_law_turn", "_law_one", "_law_other"]
theorem scShapes : FnScope nShapes ["_law_bag_here", "_law_colours", "_law_most"] (defScope sShapes) := ⟨rfl, rfl, rfl, by decide +kernel, rfl, by decide +kernel, by decide +kernel⟩
def spShapes (K : PySem.W.Frag) : Sp := fun vs H Q _ => ∃ (b c p : Addr) (cs : List Int) (most : Nat), vs = [.ref b, .ref p, .int (most : Nat)] ∧ Bag H b c ∧ H p = some (.lst (cs.map V.int)) ∧ p ≠ b ∧ 1 ≤ cs.length ∧ cs.length ≤ 6 ∧ (∀ x ∈ cs, (1 : Int) ≤ x ∧ x ≤ 4) ∧ most ≤ 100 ∧
  ∀ (H' : Hp) (d : Addr) (xs : List V) (fs : List (List Tri)), Off b H H' → Bag H' b c → H d = none → d ≠ b → H' d = some (.lst xs) → All2 (FigT K H') xs fs → GoodB cs fs → fs.length ≤ most → (0 < most → fs ≠ []) → Q (.ref d) H'
section
variable {P : Program} {w : World} {K : PySem.W.Frag} {mg : Str → Option Value} {base : Heap}
theorem ok_shapes {f fS fB : Addr} {fd fdS fdB : FuncData} {k : Nat} (F : Fun K "_law_shapes" "_law_shapes" sShapes f fd) (mr : mg "range" = none) (ma : mg "all" = none)
    (FS : Fun K "_law_shape" "_law_shape" sShape fS fdS) (bS : Binds K fdS ["_law_bag_here", "_law_colours"] []) (gS : mg "_law_shape" = some (.ref fS)) (GS : FnOk P w K mg base CX0 k fS fdS ["_law_bag_here", "_law_colours"] (spShape K))
    (FB : Fun K "_law_bars" "_law_bars" sBars fB fdB) (bB : Binds K fdB ["_law_one", "_law_other"] []) (gB : mg "_law_bars" = some (.ref fB)) (GB : FnOk P w K mg base CX0 k fB fdB ["_law_one", "_law_other"] (spBars K)) :
    FnOk P w K mg base CX0 (k + 1) f fd ["_law_bag_here", "_law_colours", "_law_most"] (spShapes K) := by
  refine F.ok scShapes (fun vs H Q E h => ?_) (fun cdv A outer s H vs Q E hr h => ?_)
  · obtain ⟨b, c, p, cs, most, rfl, _⟩ := h
    rfl
  · obtain ⟨b, c, p, cs, most, rfl, hB, hp, hpb, h1, h6, hcs, hm, q⟩ := h
    refine ⟨_, pss_cons (ps_set (i := 3) scShapes.nd rfl (.inl rfl) (pe_lst pa_nil))
      (pss_cons (ps_for PassesOwn.never rfl (pi_range1 (by rfl) mr (pa_cons (pv 2) pa_nil)) (pg_name (i := 4) scShapes.nd rfl (.inl rfl))
        (pss_cons (ps_set (i := 5) scShapes.nd rfl (.inr rfl) (pe_call GS hr (by rfl) gS FS.kp bS .nil pass0 (pa_cons (pv 0) (pa_cons (pv 1) pa_nil))))
        (pss_one (ps_if (pt_val (pe_callB (cr_all rfl) (by rfl) ma (by decide +kernel) (pa_cons (pe_lc (own := [("_law_other", 6)]) (g := gName 6) (tt := tYes) rfl scShapes.nd (pi_list (pv 3))
            (blkOk_by (own := [("_law_other", 6)]) (N := nShapes) (sc := defScope sShapes) (by decide +kernel)) (fun _ _ _ _ _ => pg_name (i := 6) scShapes.nd rfl (Or.inl rfl)) (fun _ _ _ _ _ => pts_nil)
            (fun _ _ _ _ _ => pe_call GB hr (by rfl) gB FB.kp bB .nil pass0 (pa_cons (pv 5) (pa_cons (pv 6) pa_nil)))) pa_nil)))
          (pss_one (ps_expr (pe_bm PySem.F.plainAttrs_list PySem.F.slot_list_append PySem.F.type_list_append mt_append (pv 3) (pa_cons (pv 5) pa_nil)))) pss_nil))))
      (pss_one (ps_ret (pv 3)))), ?_⟩
    refine ⟨Nat.zero_le _, fun D nD => ?_⟩
    have hne := hB.ne nD
    refine ⟨.int (most : Nat), rfl, (most : Nat), rfl, by omega, by omega, ?_⟩
    rw [Int.toNat_natCast]
    refine for_range (lo := 0) (n := most) (fun i σ H' => ∃ (y4 y5 : Option V) (xs : List V) (fs : List (List Tri)), σ = [some (.ref b), some (.ref p), some (.int (most : Nat)), some (.ref D), y4, y5, none] ∧ Bag H' b c ∧ Off b H H' ∧ H' D = some (.lst xs) ∧ All2 (FigT K H') xs fs ∧ GoodB cs fs ∧ fs.length ≤ i ∧ (0 < i → fs ≠ []))
      ⟨none, none, [], [], rfl, hB.same (same_upd nD), Off.same (same_upd nD), upd_same, True.intro, ⟨fun f hf => (by cases hf), List.Pairwise.nil⟩, Nat.le_refl _, fun z => (by omega)⟩ ?_ ?_
    · rintro i σ H' hi ⟨y4, y5, xs, fs, rfl, hB4, off4, hD, hA, hG, hl, hne0⟩
      refine ⟨.ref b, rfl, .ref p, rfl, b, c, p, cs, rfl, hB4, off4 _ _ hpb hp, hpb, h1, h6, hcs, fun H5 v fg off5 hB5 hV hGf => ?_⟩
      have ts5 : TS K H' H5 := TS.bag off5 hB4
      have hD5 := off5 _ _ hne.1 hD
      have hA5 := hA.mono fun _ _ => FigT.ts ts5
      refine ⟨.ref D, rfl, D, rfl, ⟨_, SqL.of hD5⟩, fun D2 nD2 => ?_⟩
      have hgl := hGf.len
      refine lc_list (K := K) (a := D) (xs := xs) (fun j H' => Same H5 H' ∧ H' D2 = some (.lst (((fs.take j).map fun g => okB fg g).map V.bl))) ⟨same_upd nD2, upd_same⟩ (fun j H' _ hP => SqL.of (hP.1 _ _ hD5)) (fun j x H' hx hP => ?_) (fun H6 hP => ?_)
      · obtain ⟨sm, hD2⟩ := hP
        obtain ⟨g, hg, hgT⟩ := hA5.get hx
        have hgG := hG.all g (List.mem_of_getElem? hg)
        have hgl2 := hgG.len
        refine ⟨rfl, yesT ⟨v, rfl, x, rfl, v, x, fg, g, rfl, hV.ts (TS.of sm), hgT.ts (TS.of sm), by omega, by omega, fun H7 s7 => ?_⟩⟩
        refine ⟨_, s7 _ _ hD2, ?_, Same.offUpd (sm.trans s7) nD2, ?_⟩
        · rw [List.length_map, List.length_map, List.length_take]
          exact small1000 (by omega)
        · rw [upd_same, take_snoc hg, List.map_append, List.map_append]
          rfl
      · obtain ⟨sm, hD2⟩ := hP
        rw [hA5.len, List.take_length] at hD2
        refine ⟨D2, _, rfl, SqL.of hD2, _, rfl, ite2 (fun e => ?_) (fun e => ?_)⟩
        · have hD6 := sm _ _ hD5
          have hA6 := hA5.mono fun _ _ => FigT.ts (TS.of (K := K) sm)
          refine ⟨.ref D, rfl, .inl ⟨rfl, _, SqL.of hD6⟩, v, rfl, D, _, _, rfl, rfl, hD6, ?_, ?_⟩
          · rw [hA6.len]
            exact small1000 (by omega)
          · refine ⟨_, _, xs ++ [v], fs ++ [fg], rfl, (hB5.same sm).upd hne, ((off4.trans off5).trans (Off.same sm)).new nD, upd_same, ?_, ⟨?_, ?_⟩, ?_, fun _ z => by simp at z⟩
            · exact All2.snoc ((hV.ts (TS.of sm)).ts (TS.upd hD6)) (hA6.mono fun _ _ => FigT.ts (TS.upd hD6))
            · intro f hf
              rcases List.mem_append.mp hf with hf | hf
              · exact hG.all f hf
              · rw [List.mem_singleton.mp hf]
                exact hGf
            · rw [List.pairwise_append]
              refine ⟨hG.two, List.pairwise_singleton _ _, fun g hg f hf => ?_⟩
              rw [List.mem_singleton.mp hf]
              rw [List.all_map, List.all_eq_true] at e
              exact e g hg
            · rw [List.length_append]
              show fs.length + 1 ≤ i + 1
              omega
        · refine ⟨_, _, xs, fs, rfl, hB5.same sm, (off4.trans off5).trans (Off.same sm), sm _ _ hD5, hA5.mono fun _ _ => FigT.ts (TS.of sm), hG, by omega, fun _ z => e ?_⟩
          rw [z]
          rfl
    · rintro σ H' ⟨y4, y5, xs, fs, rfl, hB4, off4, hD, hA, hG, hl, hne0⟩
      exact ⟨.ref D, rfl, q H' D xs fs off4 hB4 nD hne.1 hD hA hG hl hne0⟩
end
/-! ### pads_of, mask_of, bar -/
def spPads (K : PySem.W.Frag) : Sp := fun vs H Q _ => ∃ (v : V) (f : List Tri), vs = [v] ∧ FigT K H v f ∧ f.length ≤ 100 ∧ ∀ (H' : Hp) (p : Addr), Same H H' → H p = none → H' p = some (.lst ((f.map (·.1)).map V.int)) → Q (.ref p) H'
abbrev sPadsOf : Stmt := topS 45
abbrev nPadsOf : List Str := ["figure", "pad", "note", "depth"]
theorem scPadsOf : FnScope nPadsOf ["figure"] (defScope sPadsOf) := ⟨rfl, rfl, rfl, by decide +kernel, rfl, by decide +kernel, by decide +kernel⟩
section
variable {P : Program} {w : World} {K : PySem.W.Frag} {mg : Str → Option Value} {base : Heap}
theorem ok_padsof {f : Addr} {fd : FuncData} {k : Nat} (F : Fun K "pads_of" "pads_of" sPadsOf f fd) : FnOk P w K mg base CX0 (k + 1) f fd ["figure"] (spPads K) := by
  refine F.ok scPadsOf (fun vs H Q E h => ?_) (fun cdv A outer s H vs Q E hr h => ?_)
  · obtain ⟨v, f, rfl, _⟩ := h
    rfl
  · obtain ⟨v, f, rfl, hV, hfl, q⟩ := h
    obtain ⟨a, xs, rfl, ha, hxs⟩ := hV
    refine ⟨_, pss_one (ps_ret (pe_lc (own := [("pad", 1), ("note", 2), ("depth", 3)]) (g := g3 K 1 2 3) (tt := tYes) rfl scPadsOf.nd (pi_tup (pv 0))
        (blkOk_by (own := [("pad", 1), ("note", 2), ("depth", 3)]) (N := nPadsOf) (sc := defScope sPadsOf) (by decide +kernel))
        (fun _ _ _ _ _ => pg_tup rfl (pgs_cons (pg_name (i := 1) scPadsOf.nd rfl (.inl rfl)) (pgs_cons (pg_name (i := 2) scPadsOf.nd rfl (.inl rfl)) (pgs_cons (pg_name (i := 3) scPadsOf.nd rfl (.inl rfl)) pgs_nil)))) (fun _ _ _ _ _ => pts_nil)
        (fun _ _ _ _ _ => pv 1))), ?_⟩
    refine ⟨.ref a, rfl, a, rfl, ⟨_, ha⟩, fun D nD => ?_⟩
    refine lc_tup (K := K) (a := a) (xs := xs) (fun i H' => Same H H' ∧ H' D = some (.lst (((f.take i).map (·.1)).map V.int))) ⟨same_upd nD, upd_same⟩ (fun i H' _ hP => Same.tup hP.1 ha) (fun i x H' hx hP => ?_) (fun H1 hP => ?_)
    · obtain ⟨sm, hD⟩ := hP
      obtain ⟨t, ht, tp, rfl, htp⟩ := hxs.get hx
      refine ⟨tp, triV t, rfl, Same.tup sm htp, rfl, _, _, rfl, _, _, rfl, _, _, rfl, rfl, rfl, yesT ⟨_, rfl, _, hD, ?_, Same.offUpd sm nD, ?_⟩⟩
      · rw [List.length_map, List.length_map, List.length_take]
        exact small1000 (by omega)
      · rw [upd_same, take_snoc ht, List.map_append, List.map_append]
        rfl
    · obtain ⟨sm, hD⟩ := hP
      rw [hxs.len, List.take_length] at hD
      exact q H1 D sm nD hD
end
theorem inV_ints (p : Int) (qs : List Int) : inV (.int p) (qs.map V.int) = qs.any fun r => decide (r = p) := by
  unfold inV
  rw [List.any_map]
  congr 1
theorem flat_ints (qs : List Int) : (qs.map V.int).all flatV = true := by
  rw [List.all_map, List.all_eq_true]
  intro x _
  rfl
/-! ### mask_of -/
def spMask (K : PySem.W.Frag) : Sp := fun vs H Q _ => ∃ (v : V) (f : List Tri), vs = [v] ∧ FigT K H v f ∧ f.length ≤ 100 ∧ PadsUp f ∧ ∀ H' : Hp, Same H H' → Q (.int (maskN f : Nat)) H'
abbrev sMask : Stmt := topS 46
abbrev nMask : List Str := ["figure", "pad", "note", "depth"]
theorem scMask : FnScope nMask ["figure"] (defScope sMask) := ⟨rfl, rfl, rfl, by decide +kernel, rfl, by decide +kernel, by decide +kernel⟩
def masksI (f : List Tri) : List Int := f.map fun t => 1 * 2 ^ t.1.toNat
theorem masksI_sum (f : List Tri) : (masksI f).sum = (maskN f : Nat) := by
  unfold masksI maskN
  induction f with
  | nil => rfl
  | cons t r ih =>
    rw [List.map_cons, List.sum_cons, List.map_cons, List.sum_cons, ih]
    push_cast
    omega
section
variable {P : Program} {w : World} {K : PySem.W.Frag} {mg : Str → Option Value} {base : Heap}
theorem ok_mask {f : Addr} {fd : FuncData} {k : Nat} (F : Fun K "mask_of" "mask_of" sMask f fd) (ms : mg "sum" = none) : FnOk P w K mg base CX0 (k + 1) f fd ["figure"] (spMask K) := by
  refine F.ok scMask (fun vs H Q E h => ?_) (fun cdv A outer s H vs Q E hr h => ?_)
  · obtain ⟨v, f, rfl, _⟩ := h
    rfl
  · obtain ⟨v, f, rfl, hV, hfl, hU, q⟩ := h
    obtain ⟨a, xs, rfl, ha, hxs⟩ := hV
    refine ⟨_, pss_one (ps_ret (pe_callB (cr_sum rfl) (by rfl) ms (by decide +kernel) (pa_cons (pe_lc (own := [("pad", 1), ("note", 2), ("depth", 3)]) (g := g3 K 1 2 3) (tt := tYes) rfl scMask.nd (pi_tup (pv 0))
        (blkOk_by (own := [("pad", 1), ("note", 2), ("depth", 3)]) (N := nMask) (sc := defScope sMask) (by decide +kernel))
        (fun _ _ _ _ _ => pg_tup rfl (pgs_cons (pg_name (i := 1) scMask.nd rfl (.inl rfl)) (pgs_cons (pg_name (i := 2) scMask.nd rfl (.inl rfl)) (pgs_cons (pg_name (i := 3) scMask.nd rfl (.inl rfl)) pgs_nil)))) (fun _ _ _ _ _ => pts_nil)
        (fun _ _ _ _ _ => pe_op op_shl pe_int (pv 1))) pa_nil))), ?_⟩
    refine ⟨.ref a, rfl, a, rfl, ⟨_, ha⟩, fun D nD => ?_⟩
    refine lc_tup (K := K) (a := a) (xs := xs) (fun i H' => Same H H' ∧ H' D = some (.lst ((masksI (f.take i)).map V.int))) ⟨same_upd nD, upd_same⟩ (fun i H' _ hP => Same.tup hP.1 ha) (fun i x H' hx hP => ?_) (fun H1 hP => ?_)
    · obtain ⟨sm, hD⟩ := hP
      obtain ⟨t, ht, tp, rfl, htp⟩ := hxs.get hx
      have m := List.mem_of_getElem? ht
      have b1 := hU.lo t m
      have b2 := hU.hi t m
      refine ⟨tp, triV t, rfl, Same.tup sm htp, rfl, _, _, rfl, _, _, rfl, _, _, rfl, rfl, rfl, yesT ⟨_, rfl, 1, t.1, rfl, rfl, ⟨b1, by omega, by decide⟩, _, hD, ?_, Same.offUpd sm nD, ?_⟩⟩
      · unfold masksI
        rw [List.length_map, List.length_map, List.length_take]
        exact small1000 (by omega)
      · unfold masksI
        rw [upd_same, take_snoc ht, List.map_append, List.map_append]
        rfl
    · obtain ⟨sm, hD⟩ := hP
      rw [hxs.len, List.take_length] at hD
      refine ⟨D, _, rfl, SqL.of hD, ?_⟩
      rw [masksI_sum]
      exact q H1 sm
end
def spBar (K : PySem.W.Frag) : Sp := fun vs H Q _ => ∃ (v u : V) (f g : List Tri), vs = [v, u] ∧ FigT K H v f ∧ FigT K H u g ∧ f.length ≤ 100 ∧ g.length ≤ 100 ∧ ∀ H', Same H H' → Q (.bl (barB f g)) H'
abbrev sBar : Stmt := topS 47
abbrev nBar : List Str := ["one", "other", "wanted", "pad", "note", "depth"]
theorem scBar : FnScope nBar ["one", "other"] (defScope sBar) := ⟨rfl, rfl, rfl, by decide +kernel, rfl, by decide +kernel, by decide +kernel⟩
section
variable {P : Program} {w : World} {K : PySem.W.Frag} {mg : Str → Option Value} {base : Heap}
theorem ok_bar {f : Addr} {fd : FuncData} {k : Nat} (F : Fun K "bar" "bar" sBar f fd) (ma : mg "any" = none) : FnOk P w K mg base CX0 (k + 1) f fd ["one", "other"] (spBar K) := by
  refine F.ok scBar (fun vs H Q E h => ?_) (fun cdv A outer s H vs Q E hr h => ?_)
  · obtain ⟨v, u, f, g, rfl, _⟩ := h
    rfl
  · obtain ⟨v, u, f, g, rfl, hV, hU, hfl, hgl, q⟩ := h
    obtain ⟨a, xs, rfl, ha, hxs⟩ := hV
    obtain ⟨b, ys, rfl, hb, hys⟩ := hU
    refine ⟨_, pss_cons (ps_set (i := 2) scBar.nd rfl (.inr rfl) (pe_dc (own := [("pad", 3), ("note", 4), ("depth", 5)]) (g := g3 K 3 4 5) (tt := tYes) rfl scBar.nd (pi_tup (pv 0))
        (blkOk_by (own := [("pad", 3), ("note", 4), ("depth", 5)]) (N := nBar) (sc := defScope sBar) (by decide +kernel))
        (fun _ _ _ _ _ => pg_tup rfl (pgs_cons (pg_name (i := 3) scBar.nd rfl (.inl rfl)) (pgs_cons (pg_name (i := 4) scBar.nd rfl (.inl rfl)) (pgs_cons (pg_name (i := 5) scBar.nd rfl (.inl rfl)) pgs_nil)))) (fun _ _ _ _ _ => pts_nil)
        (fun _ _ _ _ _ => pv 3) (fun _ _ _ _ _ => pv 4)))
      (pss_one (ps_ret (pe_callB (cr_any rfl) (by rfl) ma (by decide +kernel) (pa_cons (pe_lc (own := [("pad", 3), ("note", 4), ("depth", 5)]) (g := g3 K 3 4 5) (tt := tYes) rfl scBar.nd (pi_tup (pv 1))
        (blkOk_by (own := [("pad", 3), ("note", 4), ("depth", 5)]) (N := nBar) (sc := defScope sBar) (by decide +kernel))
        (fun _ _ _ _ _ => pg_tup rfl (pgs_cons (pg_name (i := 3) scBar.nd rfl (.inl rfl)) (pgs_cons (pg_name (i := 4) scBar.nd rfl (.inl rfl)) (pgs_cons (pg_name (i := 5) scBar.nd rfl (.inl rfl)) pgs_nil)))) (fun _ _ _ _ _ => pts_nil)
        (fun _ _ _ _ _ => pe_cmpR op_ne (pe_dget2 (hu_of hr) (pv 2) (pv 3) (pv 4) ⟨rfl, rfl, rfl, rfl⟩) (pv 4) (nomark _))) pa_nil)))), ?_⟩
    refine ⟨.ref a, rfl, a, rfl, ⟨_, ha⟩, fun D nD => ?_⟩
    refine dc_tup (K := K) (a := a) (xs := xs) (fun i H' => Same H H' ∧ H' D = some (.dK (mergeK [] (kvsOf (f.take i))))) ⟨same_upd nD, upd_same⟩ (fun i H' _ hP => Same.tup hP.1 ha) (fun i x H' hx hP => ?_) (fun H1 hP => ?_)
    · obtain ⟨sm, hD⟩ := hP
      obtain ⟨t, ht, tp, rfl, htp⟩ := hxs.get hx
      refine ⟨tp, triV t, rfl, Same.tup sm htp, rfl, _, _, rfl, _, _, rfl, _, _, rfl, rfl, rfl, yesT ⟨_, rfl, _, rfl, _, Sum.inl t.1, rfl, hD, ?_, Same.offUpd sm nD, ?_⟩⟩
      · have := merge_len (f.take i)
        rw [List.length_take] at this
        exact small1000 (by omega)
      · rw [upd_same, take_snoc ht, merge_snoc]
    · obtain ⟨s1, hD⟩ := hP
      rw [hxs.len, List.take_length] at hD
      refine ⟨.ref b, rfl, b, rfl, ⟨_, Same.tup s1 hb⟩, fun D2 nD2 => ?_⟩
      refine lc_tup (K := K) (a := b) (xs := ys) (fun i H' => Same H1 H' ∧ H' D2 = some (.lst (((g.take i).map fun u => !decide ((noteOf f u.1).getD u.2.1 = u.2.1)).map V.bl))) ⟨same_upd nD2, upd_same⟩ (fun i H' _ hP => Same.tup (s1.trans hP.1) hb) (fun i x H' hx hP => ?_) (fun H2 hP => ?_)
      · obtain ⟨sm, hD2⟩ := hP
        obtain ⟨t, ht, tp, rfl, htp⟩ := hys.get hx
        refine ⟨tp, triV t, rfl, Same.tup (s1.trans sm) htp, rfl, _, _, rfl, _, _, rfl, _, _, rfl, rfl, rfl, yesT ?_⟩
        refine ⟨_, rfl, D, rfl, .inl ⟨_, .inl (sm _ _ hD)⟩, _, rfl, _, rfl, _, DGet.k (k := Sum.inl t.1) (sm _ _ hD), _, rfl, ?_⟩
        rw [val_fig]
        have ev : (((noteOf f t.1).map V.int).getD (V.int t.2.1)) = V.int ((noteOf f t.1).getD t.2.1) := by
          cases noteOf f t.1 <;> rfl
        rw [ev]
        refine ⟨rfl, _, hD2, ?_, Same.offUpd sm nD2, ?_⟩
        · rw [List.length_map, List.length_map, List.length_take]
          exact small1000 (by omega)
        · rw [upd_same, take_snoc ht, List.map_append, List.map_append]
          have : (!decide (V.int ((noteOf f t.1).getD t.2.1) = V.int t.2.1)) = (!decide ((noteOf f t.1).getD t.2.1 = t.2.1)) := by
            congr 1
            rw [decide_eq_decide]
            exact ⟨fun z => V.int.inj z, fun z => by rw [z]⟩
          rw [this]
          rfl
      · obtain ⟨sm, hD2⟩ := hP
        rw [hys.len, List.take_length] at hD2
        refine ⟨D2, _, rfl, SqL.of hD2, ?_⟩
        have := q _ (s1.trans sm)
        unfold barB at this
        rw [List.any_map]
        exact this
end
/-! ### is_triple, is_figure -/
def spIsTri (K : PySem.W.Frag) : Sp := fun vs H Q _ => ∃ (a : Addr) (cs : List Int) (v : V) (t : Tri), vs = [.ref a, v] ∧ (SqL K H a (cs.map V.int) ∨ SqT K H a (cs.map V.int)) ∧ TriAt K H v t ∧ GoodT cs t ∧ ∀ H', Same H H' → Q (.bl true) H'
abbrev sIsTri : Stmt := topS 42
abbrev nIsTri : List Str := ["colours", "triple", "pad", "note", "depth"]
theorem scIsTri : FnScope nIsTri ["colours", "triple"] (defScope sIsTri) := ⟨rfl, rfl, rfl, by decide +kernel, rfl, by decide +kernel, by decide +kernel⟩
section
variable {P : Program} {w : World} {K : PySem.W.Frag} {mg : Str → Option Value} {base : Heap}
theorem ok_istri {f : Addr} {fd : FuncData} {k : Nat} {tkD : Tok} (F : Fun K "is_triple" "is_triple" sIsTri f fd) (ml : mg "len" = none) (mD : mg "MOST_DEPTH" = some (.int 3 tkD)) : FnOk P w K mg base CX0 (k + 1) f fd ["colours", "triple"] (spIsTri K) := by
  refine F.ok scIsTri (fun vs H Q E h => ?_) (fun cdv A outer s H vs Q E hr h => ?_)
  · obtain ⟨a, cs, v, t, rfl, _⟩ := h
    rfl
  · obtain ⟨a, cs, v, t, rfl, ha, ⟨tp, rfl, htp⟩, hG, q⟩ := h
    refine ⟨_, pss_cons (ps_if (pt_cmpR op_ne (pe_callB call_lenQ (by rfl) ml PySem.boot_len (pa_cons (pv 1) pa_nil)) pe_int (nomark _)) (pss_one (ps_ret pe_bl)) pss_nil)
      (pss_cons (ps_asg (pv 1) (pg_tup rfl (pgs_cons (pg_name (i := 2) scIsTri.nd rfl (.inl rfl)) (pgs_cons (pg_name (i := 3) scIsTri.nd rfl (.inl rfl)) (pgs_cons (pg_name (i := 4) scIsTri.nd rfl (.inl rfl)) pgs_nil)))))
      (pss_one (ps_ret (pe_and (pe_chain op_le op_lt pe_int (pv 2) (pe_callB call_lenQ (by rfl) ml PySem.boot_len (pa_cons (pv 0) pa_nil)))
        (pe_and (pe_chain op_le op_lt pe_int (pv 3) (pe_ix ix_seq (pv 0) (pv 2) (fun _ _ => rfl))) (pe_one (pe_chain op_le op_le pe_int (pv 4) (pe_glob (v := .int 3) (by rfl) mD ⟨_, rfl⟩)))))))), ?_⟩
    refine ⟨.ref tp, rfl, tp, _, rfl, .inr htp, rfl, _, rfl, iteNS rfl ?_⟩
    refine ⟨.ref tp, rfl, tp, _, rfl, htp, rfl, _, _, rfl, _, _, rfl, _, _, rfl, rfl, ?_⟩
    have d1 : decide ((0 : Int) ≤ t.1) = true := decide_eq_true hG.p0
    have d2 : decide (t.1 < (((cs.map V.int).length : Nat) : Int)) = true := decide_eq_true (by rw [List.length_map]; exact hG.p1)
    have d3 : decide ((0 : Int) ≤ t.2.1) = true := decide_eq_true hG.n0
    have d4 : decide (t.2.1 < cs.getD t.1.toNat 0) = true := decide_eq_true hG.n1
    have d5 : decide ((1 : Int) ≤ t.2.2) = true := decide_eq_true hG.d0
    have d6 : decide (t.2.2 ≤ (3 : Int)) = true := decide_eq_true hG.d1
    have hp0 := hG.p0
    have hp1 := hG.p1
    have e0 : ((t.1.toNat : Nat) : Int) = t.1 := Int.toNat_of_nonneg hp0
    have hi : t.1.toNat < cs.length := by omega
    have hread : ∀ Q : VK, Q (.int (cs.getD t.1.toNat 0)) H → rIx K (.ref a) (.int t.1) H Q := fun Q z => by
      have g := cs_at hi
      rw [e0] at g
      rcases ha with ha | ha
      · exact .inl ⟨a, _, _, _, rfl, rfl, ha, g, z⟩
      · exact .inr (.inl ⟨a, _, _, _, rfl, rfl, ha, g, z⟩)
    refine ⟨.int t.1, rfl, 0, t.1, rfl, rfl, _, rfl, ?_⟩
    rw [d1]
    refine iteT ⟨.ref a, rfl, a, _, rfl, ha, t.1, _, rfl, rfl, _, rfl, ?_⟩
    rw [d2]
    refine iteT ⟨.int t.2.1, rfl, 0, t.2.1, rfl, rfl, _, rfl, ?_⟩
    rw [d3]
    refine iteT ⟨.ref a, rfl, .int t.1, rfl, hread _ ⟨t.2.1, _, rfl, rfl, _, rfl, ?_⟩⟩
    rw [d4]
    refine iteT ⟨.int t.2.2, rfl, 1, t.2.2, rfl, rfl, _, rfl, ?_⟩
    rw [d5]
    refine iteT ⟨t.2.2, 3, rfl, rfl, ?_⟩
    show Q (V.bl (decide (t.2.2 ≤ (3 : Int)))) H
    rw [d6]
    exact q _ (Same.refl _)
end
def spIsFig (K : PySem.W.Frag) : Sp := fun vs H Q _ => ∃ (a : Addr) (cs : List Int) (v : V) (f : List Tri), vs = [.ref a, v] ∧ (SqL K H a (cs.map V.int) ∨ SqT K H a (cs.map V.int)) ∧ FigT K H v f ∧ GoodF cs f ∧ f.length ≤ 100 ∧ ∀ H', Same H H' → Q (.bl true) H'
abbrev sIsFig : Stmt := topS 41
abbrev nIsFig : List Str := ["colours", "figure", "pads", "triple", "pad", "later"]
theorem scIsFig : FnScope nIsFig ["colours", "figure"] (defScope sIsFig) := ⟨rfl, rfl, rfl, by decide +kernel, rfl, by decide +kernel, by decide +kernel⟩
section
variable {P : Program} {w : World} {K : PySem.W.Frag} {mg : Str → Option Value} {base : Heap}
theorem ok_isfig {f fT fP : Addr} {fd fdT fdP : FuncData} {k : Nat} {tkD : Tok} (F : Fun K "is_figure" "is_figure" sIsFig f fd) (ml : mg "len" = none) (ma : mg "all" = none) (mz : mg "zip" = none) (mD : mg "MOST_DEPTH" = some (.int 3 tkD))
    (FT : Fun K "is_triple" "is_triple" sIsTri fT fdT) (bT : Binds K fdT ["colours", "triple"] []) (gT : mg "is_triple" = some (.ref fT))
    (FP : Fun K "pads_of" "pads_of" sPadsOf fP fdP) (bP : Binds K fdP ["figure"] []) (gP : mg "pads_of" = some (.ref fP)) : FnOk P w K mg base CX0 (k + 2) f fd ["colours", "figure"] (spIsFig K) := by
  have GT : FnOk P w K mg base CX0 (k + 1) fT fdT ["colours", "triple"] (spIsTri K) := ok_istri FT ml mD
  have GP : FnOk P w K mg base CX0 (k + 1) fP fdP ["figure"] (spPads K) := ok_padsof FP
  refine F.ok scIsFig (fun vs H Q E h => ?_) (fun cdv A outer s H vs Q E hr h => ?_)
  · obtain ⟨a, cs, v, f, rfl, _⟩ := h
    rfl
  · obtain ⟨a, cs, v, f, rfl, ha, hV, hG, hfl, q⟩ := h
    obtain ⟨b, xs, rfl, hb, hxs⟩ := id hV
    refine ⟨_, pss_cons (ps_if (PW.pt (pw_or (pt_cmpR op_eq (pe_callB call_lenQ (by rfl) ml PySem.boot_len (pa_cons (pv 1) pa_nil)) pe_int (nomark _))
        (pw_or1 (pt_not (pt_val (pe_callB (cr_all rfl) (by rfl) ma (by decide +kernel) (pa_cons (pe_lc (own := [("triple", 3)]) (g := gName 3) (tt := tYes) rfl scIsFig.nd (pi_tup (pv 1))
          (blkOk_by (own := [("triple", 3)]) (N := nIsFig) (sc := defScope sIsFig) (by decide +kernel)) (fun _ _ _ _ _ => pg_name (i := 3) scIsFig.nd rfl (.inl rfl)) (fun _ _ _ _ _ => pts_nil)
          (fun _ _ _ _ _ => pe_call GT hr (by rfl) gT FT.kp bT .nil pass0 (pa_cons (pv 0) (pa_cons (pv 3) pa_nil)))) pa_nil))))))) (pss_one (ps_ret pe_bl)) pss_nil)
      (pss_cons (ps_set (i := 2) scIsFig.nd rfl (.inl rfl) (pe_call GP hr (by rfl) gP FP.kp bP .nil pass0 (pa_cons (pv 1) pa_nil)))
      (pss_one (ps_ret (pe_callB (cr_all rfl) (by rfl) ma (by decide +kernel) (pa_cons (pe_lc (own := [("pad", 4), ("later", 5)]) (g := g2 K 4 5) (tt := tYes) rfl scIsFig.nd (pi_zip (by rfl) mz (pa_cons (pv 2) (pa_cons (pe_slice sl_list (pv 2) (po_some pe_int) po_none) pa_nil)))
        (blkOk_by (own := [("pad", 4), ("later", 5)]) (N := nIsFig) (sc := defScope sIsFig) (by decide +kernel))
        (fun _ _ _ _ _ => pg_tup rfl (pgs_cons (pg_name (i := 4) scIsFig.nd rfl (.inl rfl)) (pgs_cons (pg_name (i := 5) scIsFig.nd rfl (.inl rfl)) pgs_nil))) (fun _ _ _ _ _ => pts_nil)
        (fun _ _ _ _ _ => pe_cmpR op_lt (pv 4) (pv 5) (nomark _))) pa_nil))))), ?_⟩
    have hlen : 0 < f.length := List.length_pos_iff.mpr hG.ne
    have hxl := hxs.len
    refine ⟨.ref b, rfl, b, _, rfl, .inr hb, rfl, _, rfl, ?_⟩
    rw [decide_eq_false (fun z => by have := V.int.inj z; omega)]
    refine iteF ?_
    refine ⟨.ref b, rfl, b, rfl, ⟨_, hb⟩, fun D nD => ?_⟩
    refine lc_tup (K := K) (a := b) (xs := xs) (fun i H' => Same H H' ∧ H' D = some (.lst ((List.replicate i true).map V.bl))) ⟨same_upd nD, upd_same⟩ (fun i H' _ hP => Same.tup hP.1 hb) (fun i x H' hx hP => ?_) (fun H1 hP => ?_)
    · obtain ⟨sm, hD⟩ := hP
      obtain ⟨t, ht, htp⟩ := hxs.get hx
      have hi : i < xs.length := (List.getElem?_eq_some_iff.mp hx).1
      refine ⟨rfl, yesT ⟨.ref a, rfl, x, rfl, a, cs, x, t, rfl, same_any sm ha, htp.ts (TS.of sm), hG.all t (List.mem_of_getElem? ht), fun H2 s2 => ⟨_, s2 _ _ hD, ?_, Same.offUpd (sm.trans s2) nD, ?_⟩⟩⟩
      · rw [List.length_map, List.length_replicate]
        exact small1000 (by omega)
      · rw [upd_same, List.replicate_succ', List.map_append]
        rfl
    · obtain ⟨s1, hD⟩ := hP
      refine ⟨D, _, rfl, SqL.of hD, ?_⟩
      rw [show (List.replicate xs.length true).all id = true by simp]
      refine ⟨_, rfl, iteF ?_⟩
      refine ⟨_, rfl, _, f, rfl, hV.ts (TS.of s1), hfl, fun H2 p s2 _ hp => ?_⟩
      refine ⟨.ref p, rfl, .ref p, rfl, 1, rfl, p, _, rfl, SqL.of hp, fun p2 np2 => ?_⟩
      rw [show (some (1 : Int)) = some ((1 : Nat) : Int) from rfl, cutV_from]
      have s3 := same_upd (o := .lst (((f.map (·.1)).map V.int).drop 1)) np2
      refine ⟨p, p2, _, _, rfl, SqL.of (s3 _ _ hp), SqL.of upd_same, fun D2 nD2 => ?_⟩
      have hp3 := s3 _ _ hp
      have hp23 : (upd H2 p2 (.lst (((f.map (·.1)).map V.int).drop 1))) p2 = some (.lst (((f.map (·.1)).map V.int).drop 1)) := upd_same
      have s123 := (s1.trans s2).trans s3
      generalize upd H2 p2 (.lst (((f.map (·.1)).map V.int).drop 1)) = H3 at hp3 hp23 s123 nD2 ⊢
      refine lc_it (walk_zip (K := K) (a := p) (b := p2) (xs := (f.map (·.1)).map V.int) (ys := ((f.map (·.1)).map V.int).drop 1) rfl) (fun i H' => Same H3 H' ∧ H' D2 = some (.lst ((List.replicate i true).map V.bl))) ⟨same_upd nD2, upd_same⟩ (fun i H' _ hP => ⟨SqL.of (hP.1 _ _ hp3), SqL.of (hP.1 _ _ hp23)⟩) (fun i v H' H'' hi hP hY => ?_) (fun H4 hP => ?_)
      · obtain ⟨sm, hD2⟩ := hP
        obtain ⟨T, x, y, rfl, nT, rfl, hx, hy⟩ := hY
        have u1 := same_upd (o := .tup [x, y]) nT
        rw [List.length_drop, List.length_map, List.length_map] at hi
        have h1 : i < (f.map (·.1)).length := by rw [List.length_map]; omega
        have h2 : i + 1 < (f.map (·.1)).length := by rw [List.length_map]; omega
        have ex : x = .int (f.map (·.1))[i] := by
          have hx : ((f.map (·.1)).map V.int)[i]? = some x := hx
          rw [List.getElem?_map, List.getElem?_eq_getElem h1] at hx
          exact (Option.some.inj hx).symm
        have ey : y = .int (f.map (·.1))[i + 1] := by
          have hy : (((f.map (·.1)).map V.int).drop 1)[i]? = some y := hy
          rw [List.getElem?_drop, Nat.add_comm 1 i, List.getElem?_map, List.getElem?_eq_getElem h2] at hy
          exact (Option.some.inj hy).symm
        have hlt := List.pairwise_iff_getElem.mp hG.up i (i + 1) h1 h2 (Nat.lt_succ_self i)
        have hD2' := u1 _ _ hD2
        refine ⟨T, [x, y], rfl, SqT.of upd_same, rfl, x, _, rfl, y, _, rfl, rfl, rfl, yesT ⟨x, rfl, y, rfl, _, _, ex, ey, ?_⟩⟩
        refine ⟨_, hD2', ?_, Same.offUpd (sm.trans u1) nD2, ?_⟩
        · rw [List.length_map, List.length_replicate]
          exact small1000 (by omega)
        · rw [upd_same, List.replicate_succ', List.map_append]
          show some (HO.lst (_ ++ [V.bl (decide ((f.map (·.1))[i] < (f.map (·.1))[i + 1]))])) = _
          rw [decide_eq_true hlt]
          rfl
      · obtain ⟨sm, hD2⟩ := hP
        refine ⟨D2, _, rfl, SqL.of hD2, ?_⟩
        have e : (List.replicate (min ((f.map (·.1)).map V.int).length (((f.map (·.1)).map V.int).drop 1).length) true).all id = true := by simp
        rw [e]
        exact q _ (s123.trans sm)
end
/-! ### check_colours, check_figures, check_meetings, copy_of_figure -/
def GoodC (cs : List Int) : Prop := 1 ≤ cs.length ∧ cs.length ≤ 6 ∧ ∀ x ∈ cs, (1 : Int) ≤ x ∧ x ≤ 4
def spCCol (K : PySem.W.Frag) : Sp := fun vs H Q _ => ∃ (a : Addr) (cs : List Int), vs = [.ref a] ∧ SqL K H a (cs.map V.int) ∧ GoodC cs ∧ ∀ H', Same H H' → Q .non H'
abbrev sCCol : Stmt := topS 39
abbrev nCCol : List Str := ["colours", "at", "many"]
theorem scCCol : FnScope nCCol ["colours"] (defScope sCCol) := ⟨rfl, rfl, rfl, by decide +kernel, rfl, by decide +kernel, by decide +kernel⟩
section
variable {P : Program} {w : World} {K : PySem.W.Frag} {mg : Str → Option Value} {base : Heap}
theorem ok_ccol {f : Addr} {fd : FuncData} {k : Nat} {tkP tkC : Tok} (F : Fun K "check_colours" "check_colours" sCCol f fd) (ml : mg "len" = none) (me : mg "enumerate" = none) (mP : mg "MOST_PADS" = some (.int 6 tkP)) (mC : mg "MOST_COLOURS" = some (.int 4 tkC)) : FnOk P w K mg base CX0 (k + 1) f fd ["colours"] (spCCol K) := by
  refine F.ok scCCol (fun vs H Q E h => ?_) (fun cdv A outer s H vs Q E hr h => ?_)
  · obtain ⟨a, cs, rfl, _⟩ := h
    rfl
  · obtain ⟨a, cs, rfl, ha, hG, q⟩ := h
    refine ⟨_, pss_cons (ps_if (pt_not (pt_chain op_le op_le pe_int (pe_callB call_lenQ (by rfl) ml PySem.boot_len (pa_cons (pv 0) pa_nil)) (pe_glob (v := .int 6) (by rfl) mP ⟨_, rfl⟩))) (pss_one ps_never) pss_nil)
      (pss_one (ps_for PassesOwn.never rfl (pi_enum (by rfl) me (pa_cons (pv 0) pa_nil)) (pg_tup rfl (pgs_cons (pg_name (i := 1) scCCol.nd rfl (.inl rfl)) (pgs_cons (pg_name (i := 2) scCCol.nd rfl (.inl rfl)) pgs_nil)))
        (pss_one (ps_if (pt_not (pt_chain op_le op_le pe_int (pv 2) (pe_glob (v := .int 4) (by rfl) mC ⟨_, rfl⟩))) (pss_one ps_never) pss_nil)))), ?_⟩
    obtain ⟨h1, h6, hc⟩ := hG
    have d1 : decide ((1 : Int) ≤ (((cs.map V.int).length : Nat) : Int)) = true := decide_eq_true (by rw [List.length_map]; omega)
    have d2 : (((cs.map V.int).length : Nat) : Int) ≤ (6 : Int) := by rw [List.length_map]; omega
    refine ⟨.ref a, rfl, a, _, rfl, .inl ha, 1, _, rfl, rfl, _, rfl, ?_⟩
    rw [d1]
    refine iteT ⟨_, 6, rfl, rfl, _, rfl, iteNS d2 ?_⟩
    refine ⟨.ref a, rfl, a, _, rfl, ha, ?_⟩
    refine for_it (walk_enum (K := K) (a := a) (xs := cs.map V.int)) (fun i σ H' => ∃ (y1 y2 : Option V), σ = [some (.ref a), y1, y2] ∧ Same H H') ⟨none, none, rfl, Same.refl H⟩ (fun i σ H' _ hP => ?_) (fun i v σ H' H'' hi hP hY => ?_) (fun σ H' hP => ?_)
    · obtain ⟨_, _, _, sm⟩ := hP
      exact sm.seq ha
    · obtain ⟨y1, y2, rfl, sm⟩ := hP
      obtain ⟨T, x, y, rfl, nT, rfl, hx, hy⟩ := hY
      have u1 := same_upd (o := .tup [x, y]) nT
      rw [List.length_map] at hi
      have ey : y = .int cs[i] := by
        have hy : (cs.map V.int)[i]? = some y := hy
        rw [List.getElem?_map, List.getElem?_eq_getElem hi] at hy
        exact (Option.some.inj hy).symm
      subst ey
      have hci := hc _ (List.getElem_mem hi)
      refine ⟨T, _, rfl, SqT.of upd_same, rfl, x, _, rfl, _, _, rfl, rfl, ?_⟩
      refine ⟨_, rfl, 1, cs[i], rfl, rfl, _, rfl, ?_⟩
      rw [decide_eq_true hci.1]
      exact iteT ⟨cs[i], 4, rfl, rfl, _, rfl, iteNS hci.2 ⟨_, _, rfl, sm.trans u1⟩⟩
    · obtain ⟨y1, y2, rfl, sm⟩ := hP
      exact q _ sm
end
def spCFig (K : PySem.W.Frag) : Sp := fun vs H Q _ => ∃ (a b : Addr) (cs : List Int) (xs : List V) (fs : List (List Tri)), vs = [.ref a, .ref b] ∧ (SqL K H a (cs.map V.int) ∨ SqT K H a (cs.map V.int)) ∧ SqL K H b xs ∧ All2 (FigT K H) xs fs ∧ GoodB cs fs ∧ cs.length ≤ 6 ∧ ∀ H', Same H H' → Q .non H'
abbrev sCFig : Stmt := topS 40
abbrev nCFig : List Str := ["colours", "figures", "at", "figure"]
theorem scCFig : FnScope nCFig ["colours", "figures"] (defScope sCFig) := ⟨rfl, rfl, rfl, by decide +kernel, rfl, by decide +kernel, by decide +kernel⟩
section
variable {P : Program} {w : World} {K : PySem.W.Frag} {mg : Str → Option Value} {base : Heap}
theorem ok_cfig {f fI : Addr} {fd fdI : FuncData} {k : Nat} (F : Fun K "check_figures" "check_figures" sCFig f fd) (me : mg "enumerate" = none)
    (FI : Fun K "is_figure" "is_figure" sIsFig fI fdI) (bI : Binds K fdI ["colours", "figure"] []) (gI : mg "is_figure" = some (.ref fI)) (GI : FnOk P w K mg base CX0 k fI fdI ["colours", "figure"] (spIsFig K)) : FnOk P w K mg base CX0 (k + 1) f fd ["colours", "figures"] (spCFig K) := by
  refine F.ok scCFig (fun vs H Q E h => ?_) (fun cdv A outer s H vs Q E hr h => ?_)
  · obtain ⟨a, b, cs, xs, fs, rfl, _⟩ := h
    rfl
  · obtain ⟨a, b, cs, xs, fs, rfl, ha, hb, hA, hG, h6, q⟩ := h
    refine ⟨_, pss_one (ps_for PassesOwn.never rfl (pi_enum (by rfl) me (pa_cons (pv 1) pa_nil)) (pg_tup rfl (pgs_cons (pg_name (i := 2) scCFig.nd rfl (.inl rfl)) (pgs_cons (pg_name (i := 3) scCFig.nd rfl (.inl rfl)) pgs_nil)))
        (pss_one (ps_if (pt_not (pt_val (pe_call GI hr (by rfl) gI FI.kp bI .nil pass0 (pa_cons (pv 0) (pa_cons (pv 3) pa_nil))))) (pss_one ps_never) pss_nil))), ?_⟩
    refine ⟨.ref b, rfl, b, _, rfl, hb, ?_⟩
    refine for_it (walk_enum (K := K) (a := b) (xs := xs)) (fun i σ H' => ∃ (y1 y2 : Option V), σ = [some (.ref a), some (.ref b), y1, y2] ∧ Same H H') ⟨none, none, rfl, Same.refl H⟩ (fun i σ H' _ hP => ?_) (fun i v σ H' H'' hi hP hY => ?_) (fun σ H' hP => ?_)
    · obtain ⟨_, _, _, sm⟩ := hP
      exact sm.seq hb
    · obtain ⟨y1, y2, rfl, sm⟩ := hP
      obtain ⟨T, x, y, rfl, nT, rfl, hx, hy⟩ := hY
      have u1 := same_upd (o := .tup [x, y]) nT
      have s1 := sm.trans u1
      obtain ⟨g, hg, hgT⟩ := hA.get hy
      have hgG := hG.all g (List.mem_of_getElem? hg)
      have hgl := hgG.len
      refine ⟨T, _, rfl, SqT.of upd_same, rfl, x, _, rfl, y, _, rfl, rfl, ?_⟩
      refine ⟨_, rfl, y, rfl, a, cs, y, g, rfl, same_any s1 ha, hgT.ts (TS.of s1), hgG, by omega, fun H2 s2 => ⟨_, rfl, iteF ⟨_, _, rfl, s1.trans s2⟩⟩⟩
    · obtain ⟨y1, y2, rfl, sm⟩ := hP
      exact q _ sm
end
def spCMeet (K : PySem.W.Frag) : Sp := fun vs H Q _ => ∃ (b : Addr) (cs : List Int) (xs : List V) (fs : List (List Tri)), vs = [.ref b] ∧ SqL K H b xs ∧ All2 (FigT K H) xs fs ∧ GoodB cs fs ∧ cs.length ≤ 6 ∧ fs.length ≤ 100 ∧ ∀ H', Same H H' → Q .non H'
abbrev sCMeet : Stmt := topS 43
abbrev nCMeet : List Str := ["figures", "masks", "one", "figure", "other"]
theorem scCMeet : FnScope nCMeet ["figures"] (defScope sCMeet) := ⟨rfl, rfl, rfl, by decide +kernel, rfl, by decide +kernel, by decide +kernel⟩
section
variable {P : Program} {w : World} {K : PySem.W.Frag} {mg : Str → Option Value} {base : Heap}
theorem ok_cmeet {f fM fB : Addr} {fd fdM fdB : FuncData} {k : Nat} (F : Fun K "check_meetings" "check_meetings" sCMeet f fd) (me : mg "enumerate" = none) (mr : mg "range" = none) (ml : mg "len" = none)
    (FM : Fun K "mask_of" "mask_of" sMask fM fdM) (bM : Binds K fdM ["figure"] []) (gM : mg "mask_of" = some (.ref fM)) (GM : FnOk P w K mg base CX0 k fM fdM ["figure"] (spMask K))
    (FB : Fun K "bar" "bar" sBar fB fdB) (bB : Binds K fdB ["one", "other"] []) (gB : mg "bar" = some (.ref fB)) (GB : FnOk P w K mg base CX0 k fB fdB ["one", "other"] (spBar K)) : FnOk P w K mg base CX0 (k + 1) f fd ["figures"] (spCMeet K) := by
  refine F.ok scCMeet (fun vs H Q E h => ?_) (fun cdv A outer s H vs Q E hr h => ?_)
  · obtain ⟨b, cs, xs, fs, rfl, _⟩ := h
    rfl
  · obtain ⟨b, cs, xs, fs, rfl, hb, hA, hG, h6, hfl, q⟩ := h
    refine ⟨_, pss_cons (ps_setLc (i := 1) (own := [("figure", 3)]) (g := gName 3) (tt := tYes) rfl scCMeet.nd rfl rfl (sw_true rfl rfl rfl (by decide +kernel)) (pi_list (pv 0)) (blkOk_by (own := [("figure", 3)]) (N := nCMeet) (sc := defScope sCMeet) (by decide +kernel)) (fun _ _ _ _ _ => pg_name (i := 3) scCMeet.nd rfl (.inl rfl)) (fun _ _ _ _ _ => pts_nil) (fun _ _ _ _ _ => pe_call GM hr (by rfl) gM FM.kp bM .nil pass0 (pa_cons (pv 3) pa_nil)))
      (pss_one (ps_for PassesOwn.never rfl (pi_enum (by rfl) me (pa_cons (pv 0) pa_nil)) (pg_tup (by rfl) (pgs_cons (pg_name (i := 2) scCMeet.nd rfl (.inl rfl)) (pgs_cons (pg_name (i := 3) scCMeet.nd rfl (.inl rfl)) pgs_nil))) (pss_one (ps_for PassesOwn.never rfl (pi_range2 (by rfl) mr (pa_cons (pe_op op_add (pv 2) pe_int) (pa_cons (pe_callB call_lenQ (by rfl) ml PySem.boot_len (pa_cons (pv 0) pa_nil)) pa_nil))) (pg_name (i := 4) scCMeet.nd rfl (.inl rfl)) (pss_one (ps_if (PW.pt (pw_and (pt_cmpR op_ne (pe_op op_and (pe_ix ix_list (pv 1) (pv 2) (fun _ _ => rfl)) (pe_ix ix_list (pv 1) (pv 4) (fun _ _ => rfl))) pe_int (nomark _)) (pw_and1 (pt_not (pt_val (pe_call GB hr (by rfl) gB FB.kp bB .nil pass0 (pa_cons (pv 3) (pa_cons (pe_ix ix_list (pv 0) (pv 4) (fun _ _ => rfl)) pa_nil)))))))) (pss_one ps_never) pss_nil)))))), ?_⟩
    have hxl := hA.len
    refine ⟨.ref b, rfl, b, rfl, ⟨_, hb⟩, fun D nD => ?_⟩
    refine lc_list (K := K) (a := b) (xs := xs) (fun i H' => Same H H' ∧ H' D = some (.lst ((fs.take i).map fun f => V.int (maskN f : Nat)))) ⟨same_upd nD, upd_same⟩ (fun i H' _ hP => hP.1.seq hb) (fun i x H' hx hP => ?_) (fun H0 hP => ?_)
    · obtain ⟨sm, hD⟩ := hP
      obtain ⟨g, hg, hgT⟩ := hA.get hx
      have hgG := hG.all g (List.mem_of_getElem? hg)
      have hgl := hgG.len
      refine ⟨rfl, yesT ⟨x, rfl, x, g, rfl, hgT.ts (TS.of sm), by omega, hgG.padsUp h6, fun H2 s2 => ⟨_, s2 _ _ hD, ?_, Same.offUpd (sm.trans s2) nD, ?_⟩⟩⟩
      · rw [List.length_map, List.length_take]
        exact small1000 (by omega)
      · rw [upd_same, take_snoc hg, List.map_append]
        rfl
    obtain ⟨s0, hD⟩ := hP
    rw [hxl, List.take_length] at hD
    have hmk : ∀ (i : Nat) (f : List Tri), fs[i]? = some f → atI (fs.map fun f => V.int (maskN f : Nat)) (i : Int) = some (.int (maskN f : Nat)) := fun i f e => atI_nat (by rw [List.getElem?_map, e]; rfl)
    refine ⟨.ref b, rfl, b, _, rfl, s0.seq hb, ?_⟩
    refine for_it (walk_enum (K := K) (a := b) (xs := xs)) (fun i σ H' => ∃ (y1 y2 y3 : Option V), σ = [some (.ref b), some (.ref D), y1, y2, y3] ∧ Same H0 H') ⟨none, none, none, rfl, Same.refl H0⟩ (fun i σ H' _ hP => ?_) (fun i v σ H' H'' hi hP hY => ?_) (fun σ H' hP => ?_)
    · obtain ⟨_, _, _, _, sm⟩ := hP
      exact (s0.trans sm).seq hb
    · obtain ⟨y1, y2, y3, rfl, sm⟩ := hP
      obtain ⟨T, x, y, rfl, nT, rfl, hx, hy⟩ := hY
      have u1 := same_upd (o := .tup [x, y]) nT
      have s1 := sm.trans u1
      have ex : x = .int (i : Nat) := (Option.some.inj hx).symm
      subst ex
      obtain ⟨g, hg, hgT⟩ := hA.get hy
      have hgG := hG.all g (List.mem_of_getElem? hg)
      have hgl := hgG.len
      refine ⟨T, _, rfl, SqT.of upd_same, rfl, _, _, rfl, y, _, rfl, rfl, ?_⟩
      generalize upd H' T (.tup [.int (i : Nat), y]) = H1 at s1 ⊢
      refine ⟨_, rfl, _, _, rfl, rfl, .ref b, rfl, b, _, rfl, .inl ((s0.trans s1).seq hb), (i : Int) + 1, ((xs.length : Nat) : Int), rfl, ⟨by omega, by omega, by omega, by omega⟩, ?_⟩
      refine for_range (lo := (i : Int) + 1) (n := (((xs.length : Nat) : Int) - ((i : Int) + 1)).toNat) (fun j σ H' => ∃ (y3 : Option V), σ = [some (.ref b), some (.ref D), some (.int (i : Nat)), some y, y3] ∧ Same H0 H') ⟨_, rfl, s1⟩ ?_ ?_
      · rintro j σ H2 hj ⟨y3, rfl, sm2⟩
        have hj2 : i + 1 + j < xs.length := by omega
        have ej : (i : Int) + 1 + (j : Int) = ((i + 1 + j : Nat) : Int) := by omega
        obtain ⟨g2, hg2, hgT2⟩ := hA.get (List.getElem?_eq_getElem hj2)
        have hgG2 := hG.all g2 (List.mem_of_getElem? hg2)
        have hgl2 := hgG2.len
        have hix : atI xs ((i : Int) + 1 + (j : Int)) = some xs[i + 1 + j] := by
          rw [ej]
          exact atI_nat (List.getElem?_eq_getElem hj2)
        have hm2 := hmk _ _ hg2
        rw [← ej] at hm2
        have hD2 := sm2 _ _ hD
        refine ⟨.ref D, rfl, .int (i : Nat), rfl, D, _, _, _, rfl, rfl, SqL.of hD2, hmk _ _ hg, .ref D, rfl, .int ((i : Int) + 1 + (j : Int)), rfl, D, _, _, _, rfl, rfl, SqL.of hD2, hm2, _, _, rfl, rfl, rfl, _, rfl, ?_⟩
        rw [mask_test (hgG.padsUp h6) (hgG2.padsUp h6)]
        have s02 := s0.trans sm2
        refine ite2 (fun e => ?_) (fun e => ?_)
        · refine ⟨y, rfl, .ref b, rfl, .int ((i : Int) + 1 + (j : Int)), rfl, b, xs, _, _, rfl, rfl, s02.seq hb, hix, y, _, g, g2, rfl, hgT.ts (TS.of s02), hgT2.ts (TS.of s02), by omega, by omega, fun H4 s4 => ⟨_, rfl, ?_⟩⟩
          rw [hG.pair (by omega) hg hg2 e]
          exact iteF ⟨_, rfl, sm2.trans s4⟩
        · exact iteF ⟨_, rfl, sm2⟩
      · rintro σ H2 ⟨y3, rfl, sm2⟩
        exact ⟨_, _, _, rfl, sm2⟩
    · obtain ⟨y1, y2, y3, rfl, sm⟩ := hP
      exact q _ (s0.trans sm)
end
def spCopyF (K : PySem.W.Frag) : Sp := fun vs H Q _ => ∃ (v : V) (f : List Tri), vs = [v] ∧ FigT K H v f ∧ f.length ≤ 100 ∧ ∀ H' u, Same H H' → FigT K H' u f → Q u H'
abbrev sCopyF : Stmt := topS 44
abbrev nCopyF : List Str := ["figure", "triple"]
theorem scCopyF : FnScope nCopyF ["figure"] (defScope sCopyF) := ⟨rfl, rfl, rfl, by decide +kernel, rfl, by decide +kernel, by decide +kernel⟩
section
variable {P : Program} {w : World} {K : PySem.W.Frag} {mg : Str → Option Value} {base : Heap}
theorem ok_copyf {f : Addr} {fd : FuncData} {k : Nat} (F : Fun K "copy_of_figure" "copy_of_figure" sCopyF f fd) (mt : mg "tuple" = none) : FnOk P w K mg base CX0 (k + 1) f fd ["figure"] (spCopyF K) := by
  refine F.ok scCopyF (fun vs H Q E h => ?_) (fun cdv A outer s H vs Q E hr h => ?_)
  · obtain ⟨v, f, rfl, _⟩ := h
    rfl
  · obtain ⟨v, f, rfl, hV, hfl, q⟩ := h
    obtain ⟨a, xs, rfl, ha, hxs⟩ := hV
    refine ⟨_, pss_one (ps_ret (pe_callTy call_tupS (by rfl) mt (by decide +kernel) (pa_cons (pe_lc (own := [("triple", 1)]) (g := gName 1) (tt := tYes) rfl scCopyF.nd (pi_tup (pv 0))
        (blkOk_by (own := [("triple", 1)]) (N := nCopyF) (sc := defScope sCopyF) (by decide +kernel)) (fun _ _ _ _ _ => pg_name (i := 1) scCopyF.nd rfl (.inl rfl)) (fun _ _ _ _ _ => pts_nil)
        (fun _ _ _ _ _ => pe_callTy (r := rTupS K) call_tupS (by rfl) mt (by decide +kernel) (pa_cons (pv 1) pa_nil))) pa_nil))), ?_⟩
    refine ⟨.ref a, rfl, a, rfl, ⟨_, ha⟩, fun D nD => ?_⟩
    refine lc_tup (K := K) (a := a) (xs := xs) (fun i H' => Same H H' ∧ ∃ zs, H' D = some (.lst zs) ∧ All2 (TriAt K H') zs (f.take i)) ⟨same_upd nD, [], upd_same, True.intro⟩ (fun i H' _ hP => Same.tup hP.1 ha) (fun i x H' hx hP => ?_) (fun H1 hP => ?_)
    · obtain ⟨sm, zs, hD, hz⟩ := hP
      obtain ⟨t, ht, tp, rfl, htp⟩ := hxs.get hx
      refine ⟨rfl, yesT ⟨.ref tp, rfl, tp, _, rfl, .inr (Same.tup sm htp), fun l H2 s2 hl => ?_⟩⟩
      have hD2 := s2 _ _ hD
      refine ⟨_, hD2, ?_, Same.offUpd (sm.trans s2) nD, zs ++ [.ref l], upd_same, ?_⟩
      · rw [hz.len, List.length_take]
        exact small1000 (by omega)
      · rw [take_snoc ht]
        exact All2.snoc ⟨l, rfl, TS.upd hD2 _ _ hl⟩ (hz.mono fun _ _ => TriAt.ts ((TS.of s2).trans (TS.upd hD2)))
    · obtain ⟨sm, zs, hD, hz⟩ := hP
      rw [hxs.len, List.take_length] at hz
      refine ⟨D, _, rfl, .inl (SqL.of hD), fun l H2 s2 hl => ?_⟩
      exact q _ _ (sm.trans s2) ⟨l, zs, rfl, hl, hz.mono fun _ _ => TriAt.ts (TS.of s2)⟩
end
/-! ### Book.__init__ -/
def bkF (a b : Addr) : List (Str × V) := [("palette", .ref a), ("shapes", .ref b)]
def BookAt (K : PySem.W.Frag) (C : Addr) (H : Hp) (p : Addr) (cs : List Int) (fs : List (List Tri)) : Prop :=
  ∃ (dx a b : Addr) (xs : List V), H p = some (.ins C dx (bkF a b)) ∧ SqT K H a (cs.map V.int) ∧ SqT K H b xs ∧ All2 (FigT K H) xs fs
theorem BookAt.same {K : PySem.W.Frag} {C : Addr} {H H' : Hp} {p : Addr} {cs : List Int} {fs : List (List Tri)} (h : BookAt K C H p cs fs) (e : Same H H') : BookAt K C H' p cs fs := by
  obtain ⟨dx, a, b, xs, h1, h2, h3, h4⟩ := h
  exact ⟨dx, a, b, xs, e _ _ h1, Same.tup e h2, Same.tup e h3, h4.mono fun _ _ => FigT.ts (TS.of e)⟩
structure BkTxt (K : PySem.W.Frag) (mg : Str → Option Value) (C : Addr) : Prop where
  cl : Cls K C
  nP : NoAttr K C "palette"
  nS : NoAttr K C "shapes"
  mgC : mg "Book" = some (.ref C)
def spInit (K : PySem.W.Frag) (C : Addr) : Sp := fun vs H Q _ => ∃ (p dx a b : Addr) (cs : List Int) (xs : List V) (fs : List (List Tri)), vs = [.ref p, .ref a, .ref b] ∧ H p = some (.ins C dx []) ∧ SqL K H a (cs.map V.int) ∧ SqL K H b xs ∧ All2 (FigT K H) xs fs ∧ GoodC cs ∧ GoodB cs fs ∧ fs.length ≤ 12 ∧
  ∀ H', Off p H H' → BookAt K C H' p cs fs → Q .non H'
abbrev sInit : Stmt := inClass (topS 38) 0
abbrev nInit : List Str := ["self", "colours", "figures", "figure"]
theorem scInit : FnScope nInit ["self", "colours", "figures"] (defScope sInit) := ⟨rfl, rfl, rfl, by decide +kernel, rfl, by decide +kernel, by decide +kernel⟩
theorem TS.ins {K : PySem.W.Frag} {H H' : Hp} {p C dx : Addr} {fs : List (Str × V)} (e : Off p H H') (h : H p = some (.ins C dx fs)) : TS K H H' := fun a xs q => by
  rcases q with (q | ⟨o, q⟩) | q
  · exact .inl (.inl (e _ _ (fun z => by rw [z, h] at q; cases q) q))
  · exact .inl (.inr ⟨o, e _ _ (fun z => by rw [z, h] at q; cases q) q⟩)
  · exact .inr q
theorem seqL_off {K : PySem.W.Frag} {H H' : Hp} {p C dx b : Addr} {fs : List (Str × V)} {xs : List V} (e : Off p H H') (h : H p = some (.ins C dx fs)) (q : SqL K H b xs) : SqL K H' b xs := by
  rcases q with (q | ⟨o, q⟩) | q
  · exact .inl (.inl (e _ _ (fun z => by rw [z, h] at q; cases q) q))
  · exact .inl (.inr ⟨o, e _ _ (fun z => by rw [z, h] at q; cases q) q⟩)
  · exact .inr q
section
variable {P : Program} {w : World} {K : PySem.W.Frag} {mg : Str → Option Value} {base : Heap}
theorem ok_init {f C f1 f2 f3 f4 : Addr} {fd fd1 fd2 fd3 fd4 : FuncData} {k : Nat} {tkF : Tok} {kws : List (Str × V)} (F : FunD K "__init__" "Book.__init__" (defArgs sInit) (defBody sInit) (defScope sInit) [] kws f fd) (T : BkTxt K mg C)
    (ml : mg "len" = none) (mt : mg "tuple" = none) (mF : mg "MOST_FIGURES" = some (.int 12 tkF))
    (F1 : Fun K "check_colours" "check_colours" sCCol f1 fd1) (b1 : Binds K fd1 ["colours"] []) (g1 : mg "check_colours" = some (.ref f1)) (G1 : FnOk P w K mg base CX0 k f1 fd1 ["colours"] (spCCol K))
    (F2 : Fun K "check_figures" "check_figures" sCFig f2 fd2) (b2 : Binds K fd2 ["colours", "figures"] []) (g2 : mg "check_figures" = some (.ref f2)) (G2 : FnOk P w K mg base CX0 k f2 fd2 ["colours", "figures"] (spCFig K))
    (F3 : Fun K "check_meetings" "check_meetings" sCMeet f3 fd3) (b3 : Binds K fd3 ["figures"] []) (g3 : mg "check_meetings" = some (.ref f3)) (G3 : FnOk P w K mg base CX0 k f3 fd3 ["figures"] (spCMeet K))
    (F4 : Fun K "copy_of_figure" "copy_of_figure" sCopyF f4 fd4) (b4 : Binds K fd4 ["figure"] []) (g4 : mg "copy_of_figure" = some (.ref f4)) (G4 : FnOk P w K mg base CX0 k f4 fd4 ["figure"] (spCopyF K)) :
    FnOk P w K mg base CX0 (k + 1) f fd ["self", "colours", "figures"] (spInit K C) := by
  refine F.ok (CX := CX0) scInit (fun vs H Q E h => ?_) (fun cdv A outer s H vs Q E hr h => ?_)
  · obtain ⟨p, dx, a, b, cs, xs, fs, rfl, _⟩ := h
    rfl
  · obtain ⟨p, dx, a, b, cs, xs, fs, rfl, hp, ha, hb, hA, hC, hG, h12, q⟩ := h
    refine ⟨_, PSs.nox (pss_cons (ps_expr (pe_call G1 hr (by rfl) g1 F1.kp b1 .nil pass0 (pa_cons (pv 1) pa_nil)))
      (pss_cons (ps_if (pt_cmpR op_gt (pe_callB call_lenQ (by rfl) ml PySem.boot_len (pa_cons (pv 2) pa_nil)) (pe_glob (v := .int 12) (by rfl) mF ⟨_, rfl⟩) (nomark _)) (pss_one ps_never) pss_nil)
      (pss_cons (ps_expr (pe_call G2 hr (by rfl) g2 F2.kp b2 .nil pass0 (pa_cons (pv 1) (pa_cons (pv 2) pa_nil))))
      (pss_cons (ps_expr (pe_call G3 hr (by rfl) g3 F3.kp b3 .nil pass0 (pa_cons (pv 2) pa_nil)))
      (pss_cons (ps_fld (pv 0) (pe_callTy call_tupS (by rfl) mt (by decide +kernel) (pa_cons (pv 1) pa_nil)) rfl)
      (pss_one (ps_fld (pv 0) (pe_callTy call_tupS (by rfl) mt (by decide +kernel) (pa_cons (pe_lc (own := [("figure", 3)]) (g := gName 3) (tt := tYes) rfl scInit.nd (pi_list (pv 2))
        (blkOk_by (own := [("figure", 3)]) (N := nInit) (sc := defScope sInit) (by decide +kernel)) (fun _ _ _ _ _ => pg_name (i := 3) scInit.nd rfl (.inl rfl)) (fun _ _ _ _ _ => pts_nil)
        (fun _ _ _ _ _ => pe_call G4 hr (by rfl) g4 F4.kp b4 .nil pass0 (pa_cons (pv 3) pa_nil))) pa_nil)) rfl))))))), ?_⟩
    have hxl := hA.len
    refine ⟨.ref a, rfl, a, cs, rfl, ha, hC, fun H1 s1 => ?_⟩
    refine ⟨.ref b, rfl, b, _, rfl, .inl (s1.seq hb), _, 12, rfl, rfl, _, rfl, ?_⟩
    rw [decide_eq_false (show ¬ (12 : Int) < ((xs.length : Nat) : Int) by omega)]
    refine iteF ?_
    refine ⟨.ref a, rfl, .ref b, rfl, a, b, cs, xs, fs, rfl, .inl (s1.seq ha), s1.seq hb, hA.mono fun _ _ => FigT.ts (TS.of s1), hG, hC.2.1, fun H2 s2 => ?_⟩
    have s12 := s1.trans s2
    refine ⟨.ref b, rfl, b, cs, xs, fs, rfl, s12.seq hb, hA.mono fun _ _ => FigT.ts (TS.of s12), hG, hC.2.1, by omega, fun H3 s3 => ?_⟩
    have s13 := s12.trans s3
    refine ⟨.ref a, rfl, a, _, rfl, .inl (s13.seq ha), fun a2 H4 s4 ha2 => ?_⟩
    have s14 := s13.trans s4
    have hp4 := s14 _ _ hp
    refine ⟨.ref p, rfl, p, C, dx, [], rfl, hp4, T.cl, T.nP, (show 0 < 1000 by decide), ?_⟩
    have off5 : Off p H4 (upd H4 p (.ins C dx (putF "palette" (.ref a2) []))) := Off.upd
    have hp5 : (upd H4 p (.ins C dx (putF "palette" (.ref a2) []))) p = some (.ins C dx [("palette", .ref a2)]) := upd_same
    have hb5 := seqL_off off5 hp4 (s14.seq hb)
    have ts5 : TS K H (upd H4 p (.ins C dx (putF "palette" (.ref a2) []))) := (TS.of s14).trans (TS.ins off5 hp4)
    have ha5 : SqT K (upd H4 p (.ins C dx (putF "palette" (.ref a2) []))) a2 (cs.map V.int) := TS.ins off5 hp4 _ _ ha2
    have off15 : Off p H (upd H4 p (.ins C dx (putF "palette" (.ref a2) []))) := (Off.same s14).trans off5
    generalize upd H4 p (.ins C dx (putF "palette" (.ref a2) [])) = H5 at off5 hp5 hb5 ts5 ha5 off15 ⊢
    have hA5 := hA.mono fun _ _ => FigT.ts ts5
    refine ⟨.ref b, rfl, b, rfl, ⟨_, hb5⟩, fun D nD => ?_⟩
    refine lc_list (K := K) (a := b) (xs := xs) (fun i H' => Same H5 H' ∧ ∃ zs, H' D = some (.lst zs) ∧ All2 (FigT K H') zs (fs.take i)) ⟨same_upd nD, [], upd_same, True.intro⟩ (fun i H' _ hP => hP.1.seq hb5) (fun i x H' hx hP => ?_) (fun H6 hP => ?_)
    · obtain ⟨sm, zs, hD, hz⟩ := hP
      obtain ⟨g, hg, hgT⟩ := hA5.get hx
      have hgl := (hG.all g (List.mem_of_getElem? hg)).len
      have := hC.2.1
      refine ⟨rfl, yesT ⟨x, rfl, x, g, rfl, hgT.ts (TS.of sm), by omega, fun H7 u s7 hu => ?_⟩⟩
      have hD7 := s7 _ _ hD
      refine ⟨_, hD7, ?_, Same.offUpd (sm.trans s7) nD, zs ++ [u], upd_same, ?_⟩
      · rw [hz.len, List.length_take]
        exact small1000 (by omega)
      · rw [take_snoc hg]
        exact All2.snoc (hu.ts (TS.upd hD7)) (hz.mono fun _ _ => FigT.ts ((TS.of s7).trans (TS.upd hD7)))
    · obtain ⟨sm, zs, hD, hz⟩ := hP
      rw [hxl, List.take_length] at hz
      refine ⟨D, _, rfl, .inl (SqL.of hD), fun l H7 s7 hl => ?_⟩
      have s57 := sm.trans s7
      have hp7 := s57 _ _ hp5
      refine ⟨.ref p, rfl, p, C, dx, _, rfl, hp7, T.cl, T.nS, (show 1 < 1000 by decide), ?_⟩
      have off8 : Off p H7 (upd H7 p (.ins C dx (putF "shapes" (.ref l) [("palette", .ref a2)]))) := Off.upd
      refine q _ ((off15.trans (Off.same s57)).trans off8) ⟨dx, a2, l, zs, upd_same, ?_, TS.ins off8 hp7 _ _ hl, hz.mono fun _ _ => FigT.ts ((TS.of s7).trans (TS.ins off8 hp7))⟩
      exact TS.ins off8 hp7 _ _ (Same.tup s57 ha5)
end
/-! ### figures as they are handed in: tuples of any lengths -/
def TupZ (K : PySem.W.Frag) (H : Hp) (v : V) (t : List Int) : Prop := ∃ a, v = .ref a ∧ SqT K H a (t.map V.int)
theorem TupZ.ts {K : PySem.W.Frag} {H H' : Hp} (e : TS K H H') {v : V} {t : List Int} (h : TupZ K H v t) : TupZ K H' v t := by
  obtain ⟨a, h1, h2⟩ := h
  exact ⟨a, h1, e _ _ h2⟩
abbrev RF := List (List Int)
def RFigT (K : PySem.W.Frag) (H : Hp) (v : V) (f : RF) : Prop := ∃ a xs, v = .ref a ∧ SqT K H a xs ∧ All2 (TupZ K H) xs f
theorem RFigT.ts {K : PySem.W.Frag} {H H' : Hp} (e : TS K H H') {v : V} {f : RF} (h : RFigT K H v f) : RFigT K H' v f := by
  obtain ⟨a, xs, h1, h2, h3⟩ := h
  exact ⟨a, xs, h1, e _ _ h2, h3.mono fun _ _ => TupZ.ts e⟩
def RFigL (K : PySem.W.Frag) (H : Hp) (v : V) (f : RF) : Prop := ∃ a xs, v = .ref a ∧ SqL K H a xs ∧ All2 (TupZ K H) xs f
theorem RFigL.same {K : PySem.W.Frag} {H H' : Hp} (e : Same H H') {v : V} {f : RF} (h : RFigL K H v f) : RFigL K H' v f := by
  obtain ⟨a, xs, h1, h2, h3⟩ := h
  exact ⟨a, xs, h1, e.seq h2, h3.mono fun _ _ => TupZ.ts (TS.of e)⟩
/-- a list of good triples -/
def FigL (K : PySem.W.Frag) (H : Hp) (v : V) (f : List Tri) : Prop := ∃ a xs, v = .ref a ∧ SqL K H a xs ∧ All2 (TriAt K H) xs f
theorem FigL.same {K : PySem.W.Frag} {H H' : Hp} (e : Same H H') {v : V} {f : List Tri} (h : FigL K H v f) : FigL K H' v f := by
  obtain ⟨a, xs, h1, h2, h3⟩ := h
  exact ⟨a, xs, h1, e.seq h2, h3.mono fun _ _ => TriAt.ts (TS.of e)⟩
def triB (cs : List Int) : List Int → Bool
  | [p, n, d] => decide (0 ≤ p) && (decide (p < cs.length) && (decide (0 ≤ n) && (decide (n < cs.getD p.toNat 0) && (decide (1 ≤ d) && decide (d ≤ 3)))))
  | _ => false
def toTri : List Int → Tri
  | [p, n, d] => (p, n, d)
  | _ => (0, 0, 0)
theorem triB_ok {cs t : List Int} (h : triB cs t = true) : ∃ p n d, t = [p, n, d] ∧ GoodT cs (p, n, d) := by
  unfold triB at h
  split at h
  · rename_i p n d
    simp only [Bool.and_eq_true, decide_eq_true_eq] at h
    obtain ⟨h1, h2, h3, h4, h5, h6⟩ := h
    exact ⟨p, n, d, rfl, h1, h2, h3, h4, h5, h6⟩
  · cases h
def risesFrom (last : Int) : List Int → Bool
  | [] => true
  | p :: r => decide (last < p) && risesFrom p r
/-- good triples whose pads rise, above last -/
def wellGo (cs : List Int) (last : Int) : RF → Bool
  | [] => true
  | t :: r => triB cs t && (decide (last < (toTri t).1) && wellGo cs (toTri t).1 r)
def figB (cs : List Int) (f : RF) : Bool := decide (f ≠ []) && wellGo cs (-1) f
theorem wellGo_eq (cs : List Int) : ∀ (f : RF) (last : Int), wellGo cs last f = (f.all (triB cs) && risesFrom last (f.map fun t => (toTri t).1))
  | [], _ => rfl
  | t :: r, last => by
    unfold wellGo
    rw [wellGo_eq cs r, List.all_cons, List.map_cons]
    show _ = (triB cs t && r.all (triB cs) && (decide (last < (toTri t).1) && risesFrom (toTri t).1 (r.map fun t => (toTri t).1)))
    cases triB cs t <;> cases r.all (triB cs) <;> cases decide (last < (toTri t).1) <;> cases risesFrom (toTri t).1 (r.map fun t => (toTri t).1) <;> rfl
theorem rises_pair : ∀ (l : List Int) (last : Int), risesFrom last l = true → (last :: l).Pairwise (· < ·)
  | [], _, _ => List.pairwise_singleton _ _
  | p :: r, last, h => by
    obtain ⟨h1, h2⟩ := Bool.and_eq_true_iff.mp (show (decide (last < p) && risesFrom p r) = true from h)
    have h3 := rises_pair r p h2
    have h4 := of_decide_eq_true h1
    refine List.pairwise_cons.mpr ⟨fun x hx => ?_, h3⟩
    rcases List.mem_cons.mp hx with rfl | hx
    · exact h4
    · exact Int.lt_trans h4 ((List.pairwise_cons.mp h3).1 x hx)
theorem figB_good {cs : List Int} {f : RF} (h : figB cs f = true) : GoodF cs (f.map toTri) ∧ ∀ t ∈ f, ∃ p n d, t = [p, n, d] := by
  obtain ⟨h1, h2⟩ := Bool.and_eq_true_iff.mp h
  rw [wellGo_eq] at h2
  obtain ⟨h3, h4⟩ := Bool.and_eq_true_iff.mp h2
  have a := List.all_eq_true.mp h3
  refine ⟨⟨fun z => of_decide_eq_true h1 (List.map_eq_nil_iff.mp z), fun u hu => ?_, ?_⟩, fun t ht => ?_⟩
  · obtain ⟨t, ht, rfl⟩ := List.mem_map.mp hu
    obtain ⟨p, n, d, rfl, g⟩ := triB_ok (a t ht)
    exact g
  · rw [List.map_map]
    exact (List.pairwise_cons.mp (rises_pair _ _ h4)).2
  · obtain ⟨p, n, d, e, _⟩ := triB_ok (a t ht)
    exact ⟨p, n, d, e⟩
theorem tris_of {K : PySem.W.Frag} {H : Hp} : ∀ {xs : List V} {f : RF}, All2 (TupZ K H) xs f → (∀ t ∈ f, ∃ p n d, t = [p, n, d]) → All2 (TriAt K H) xs (f.map toTri)
  | [], [], _, _ => True.intro
  | x :: xs, t :: f, h, g => by
    obtain ⟨p, n, d, rfl⟩ := g t (List.mem_cons_self ..)
    obtain ⟨a, e, ha⟩ := h.1
    exact ⟨⟨a, e, ha⟩, tris_of h.2 fun t ht => g t (List.mem_cons_of_mem _ ht)⟩
  | [], _ :: _, h, _ => h.elim
  | _ :: _, [], h, _ => h.elim
/-! the first that is not so -/
def FirstNo {α : Type} (p : α → Prop) (l : List α) (i : Nat) : Prop := (∃ x, l[i]? = some x ∧ ¬ p x) ∧ ∀ (j : Nat) (x : α), j < i → l[j]? = some x → p x
theorem FirstNo.uniq {α : Type} {p : α → Prop} {l : List α} {i j : Nat} (h : FirstNo p l i) (g : FirstNo p l j) : i = j := by
  obtain ⟨⟨x, x1, x2⟩, x3⟩ := h
  obtain ⟨⟨y, y1, y2⟩, y3⟩ := g
  rcases Nat.lt_trichotomy i j with z | z | z
  · exact absurd (y3 i x z x1) x2
  · exact z
  · exact absurd (x3 j y z y1) y2
theorem FirstNo.not {α : Type} {p : α → Prop} {l : List α} {i : Nat} (h : FirstNo p l i) (g : ∀ x ∈ l, p x) : False := by
  obtain ⟨⟨x, x1, x2⟩, _⟩ := h
  exact x2 (g x (List.mem_of_getElem? x1))
def mtB (fs : List RF) (i j : Nat) : Bool := okB ((fs.getD i []).map toTri) ((fs.getD j []).map toTri)
/-- the first two that meet and do not bar -/
def FirstM (fs : List RF) (i j : Nat) : Prop := (i < j ∧ j < fs.length ∧ mtB fs i j = false) ∧ ∀ i' j', i' < j' → j' < fs.length → (i' < i ∨ (i' = i ∧ j' < j)) → mtB fs i' j' = true
theorem FirstM.uniq {fs : List RF} {i j i' j' : Nat} (h : FirstM fs i j) (g : FirstM fs i' j') : i = i' ∧ j = j' := by
  obtain ⟨⟨h1, h2, h3⟩, h4⟩ := h
  obtain ⟨⟨g1, g2, g3⟩, g4⟩ := g
  have a : ¬ (i < i' ∨ (i = i' ∧ j < j')) := fun z => by
    have := g4 i j h1 h2 z
    rw [h3] at this
    cases this
  have b : ¬ (i' < i ∨ (i' = i ∧ j' < j)) := fun z => by
    have := h4 i' j' g1 g2 z
    rw [g3] at this
    cases this
  omega
def NoneM (fs : List RF) : Prop := ∀ i j, i < j → j < fs.length → mtB fs i j = true
theorem FirstM.not {fs : List RF} {i j : Nat} (h : FirstM fs i j) (g : NoneM fs) : False := by
  obtain ⟨⟨h1, h2, h3⟩, _⟩ := h
  have := g i j h1 h2
  rw [h3] at this
  cases this
abbrev colOk (x : Int) : Prop := 1 ≤ x ∧ x ≤ 4
/-- what is due of a book: none, or the refusal's number and values -/
inductive DueR (cs : List Int) (fs : List RF) : Option (Nat × List Int) → Prop
  | many (h : ¬ (1 ≤ cs.length ∧ cs.length ≤ 6)) : DueR cs fs (some (0, [-1]))
  | col (i : Nat) (h : 1 ≤ cs.length ∧ cs.length ≤ 6) (g : FirstNo colOk cs i) : DueR cs fs (some (0, [(i : Int)]))
  | figs (h : GoodC cs) (g : 12 < fs.length) : DueR cs fs (some (3, [12]))
  | fig (i : Nat) (h : GoodC cs) (g : fs.length ≤ 12) (e : FirstNo (fun f => figB cs f = true) fs i) : DueR cs fs (some (1, [(i : Int)]))
  | meet (i j : Nat) (h : GoodC cs) (g : fs.length ≤ 12) (e : ∀ f ∈ fs, figB cs f = true) (m : FirstM fs i j) : DueR cs fs (some (2, [(i : Int), (j : Int)]))
  | none (h : GoodC cs) (g : fs.length ≤ 12) (e : ∀ f ∈ fs, figB cs f = true) (m : NoneM fs) : DueR cs fs Option.none
theorem DueR.uniq {cs : List Int} {fs : List RF} {o o' : Option (Nat × List Int)} (h : DueR cs fs o) (g : DueR cs fs o') : o = o' := by
  have nc : ∀ {i}, FirstNo colOk cs i → GoodC cs → False := fun f c => f.not c.2.2
  cases h with
  | many h =>
    cases g with
    | many => rfl
    | col i h' => exact absurd h' h
    | figs c => exact absurd ⟨c.1, c.2.1⟩ h
    | fig i c => exact absurd ⟨c.1, c.2.1⟩ h
    | meet i j c => exact absurd ⟨c.1, c.2.1⟩ h
    | none c => exact absurd ⟨c.1, c.2.1⟩ h
  | col i h f =>
    cases g with
    | many h' => exact absurd h h'
    | col j h' f' => rw [f.uniq f']
    | figs c => exact (nc f c).elim
    | fig j c => exact (nc f c).elim
    | meet j k c => exact (nc f c).elim
    | none c => exact (nc f c).elim
  | figs c n =>
    cases g with
    | many h' => exact absurd ⟨c.1, c.2.1⟩ h'
    | col j h' f' => exact (nc f' c).elim
    | figs => rfl
    | fig j c' n' => omega
    | meet j k c' n' => omega
    | none c' n' => omega
  | fig i c n f =>
    cases g with
    | many h' => exact absurd ⟨c.1, c.2.1⟩ h'
    | col j h' f' => exact (nc f' c).elim
    | figs c' n' => omega
    | fig j c' n' f' => rw [f.uniq f']
    | meet j k c' n' e' => exact (f.not e').elim
    | none c' n' e' => exact (f.not e').elim
  | meet i j c n e m =>
    cases g with
    | many h' => exact absurd ⟨c.1, c.2.1⟩ h'
    | col j h' f' => exact (nc f' c).elim
    | figs c' n' => omega
    | fig j c' n' f' => exact (f'.not e).elim
    | meet i' j' c' n' e' m' =>
      obtain ⟨rfl, rfl⟩ := m.uniq m'
      rfl
    | none c' n' e' m' => exact (m.not m').elim
  | none c n e m =>
    cases g with
    | many h' => exact absurd ⟨c.1, c.2.1⟩ h'
    | col j h' f' => exact (nc f' c).elim
    | figs c' n' => omega
    | fig j c' n' f' => exact (f'.not e).elim
    | meet i' j' c' n' e' m' => exact (m'.not m).elim
    | none => rfl
theorem DueR.shape {cs : List Int} {fs : List RF} {i : Nat} {ws : List Int} (h : DueR cs fs (some (i, ws))) : i < 28 ∧ ws.length = (rFl i).length ∧ rNm i ≠ "told" := by
  cases h <;> exact ⟨by decide, rfl, by decide +kernel⟩
theorem same_ref {H H2 : Hp} {d : Addr} (h1 : H d = none) (h2 : ∀ b, b ≠ d → H b ≠ none → H2 b = H b) : Same H H2 := fun b o e => by
  rw [h2 b (ne_of_none e h1) (by rw [e]; simp)]
  exact e
/-- the refusal i with these numbers -/
def refuseN (i : Nat) (C : Addr) (ws : List Int) (H : Hp) (E : XK) : Prop := ∀ (d : Addr) (H' : Hp), Same H H' → H' d = some (.xd (rFs i (ws.map V.int))) → E (.ref C) (some d) H'
theorem refuseN.later {i : Nat} {C : Addr} {ws : List Int} {H H1 : Hp} {E : XK} (h : refuseN i C ws H E) (s : Same H H1) : refuseN i C ws H1 E := fun d H' s' hd => h d H' (s.trans s') hd
abbrev exc1 (i : Nat) (nm fl : Str) (C : Addr) (P : Program) (w : World) (K : PySem.W.Frag) (mg : Str → Option Value) (base : Heap) (k : Nat) : Prop := ExcK P w K mg base k nm C 1 (fun ws => [(fl, ws.getD 0 .non), ("word", .str nm)])
/-! ### Book.pads; Book.shape with its refusal; Book.meet with it -/
theorem bkF_shapesX (a b : Addr) : List.lookup (Str.ofString "shapes") (bkF a b) = some (V.ref b) := rfl
abbrev sPadsM : Stmt := inClass (topS 38) 2
theorem scPadsM : FnScope ["self"] ["self"] (defScope sPadsM) := ⟨rfl, rfl, rfl, by decide +kernel, rfl, by decide +kernel, by decide +kernel⟩
def spPadsM (K : PySem.W.Frag) (C : Addr) : Sp := fun vs H Q _ => ∃ (p : Addr) (cs : List Int) (fs : List (List Tri)), vs = [.ref p] ∧ BookAt K C H p cs fs ∧ Q (.int (cs.length : Nat)) H
abbrev sShpX : Stmt := inClass (topS 38) 4
abbrev nShpX : List Str := ["self", "at"]
theorem scShpX : FnScope nShpX ["self", "at"] (defScope sShpX) := ⟨rfl, rfl, rfl, by decide +kernel, rfl, by decide +kernel, by decide +kernel⟩
/-- NoFigure is the refusal 24 -/
def spShpX (K : PySem.W.Frag) (C CN : Addr) : Sp := fun vs H Q E => ∃ (p : Addr) (cs : List Int) (fs : List (List Tri)) (z : Int), vs = [.ref p, .int z] ∧ BookAt K C H p cs fs ∧ (∀ i : Nat, z = (i : Int) → i < fs.length → ∀ v, FigT K H v (fs.getD i []) → Q v H) ∧ (¬ (0 ≤ z ∧ z < (fs.length : Nat)) → refuseN 24 CN [z] H E)
section
variable {P : Program} {w : World} {K : PySem.W.Frag} {mg : Str → Option Value} {base : Heap}
theorem ok_padsM {f C : Addr} {fd : FuncData} {k : Nat} (F : Fun K "pads" "Book.pads" sPadsM f fd) (T : BkTxt K mg C) (ml : mg "len" = none) : FnOk P w K mg base CX0 (k + 1) f fd ["self"] (spPadsM K C) := by
  refine F.ok scPadsM (fun vs H Q E h => ?_) (fun cdv A outer s H vs Q E hr h => ?_)
  · obtain ⟨p, cs, fs, rfl, _⟩ := h
    rfl
  · obtain ⟨p, cs, fs, rfl, ⟨dx, a, b, xs, hp, ha, hb, hA⟩, q⟩ := h
    refine ⟨_, pss_one (ps_ret (pe_callB call_lenQ (by rfl) ml PySem.boot_len (pa_cons (pe_fld (pv 0) rfl) pa_nil))), ?_⟩
    refine ⟨.ref p, rfl, p, C, dx, _, _, rfl, hp, T.cl, T.nP, rfl, a, _, rfl, .inr ha, ?_⟩
    rw [List.length_map]
    exact q
theorem ok_shpX {f C CN : Addr} {fd : FuncData} {k : Nat} (F : Fun K "shape" "Book.shape" sShpX f fd) (T : BkTxt K mg C) (ml : mg "len" = none) (R : exc1 24 "NoFigure" "figure" CN P w K mg base k) : FnOk P w K mg base (L2.CX P w) (k + 2) f fd ["self", "at"] (spShpX K C CN) := by
  refine F.okX scShpX (fun vs H Q E h => ?_) (fun cdv A outer s H vs Q E hr h => ?_)
  · obtain ⟨p, cs, fs, z, rfl, _⟩ := h
    rfl
  · obtain ⟨p, cs, fs, z, rfl, ⟨dx, a, b, xs, hp, ha, hb, hA⟩, q, q1⟩ := h
    refine ⟨_, pss_cons (ps_if (pt_not (pt_chain op_le op_lt pe_int (pv 1) (pe_callB call_lenQ (by rfl) ml PySem.boot_len (pa_cons (pe_fld (pv 0) rfl) pa_nil)))) (pss_one (ps_raise rfl (takes_of rfl rfl rfl rfl) (pmk_ref R hr (by rfl) (pa_cons (pv 1) pa_nil)))) pss_nil)
      (pss_one (ps_ret (pe_ix ix_tup (pe_fld (pv 0) rfl) (pv 1) (fun _ _ => rfl)))), ?_⟩
    have hxl := hA.len
    have bad : ¬ (0 ≤ z ∧ z < (fs.length : Nat)) → ∀ σ : L2.St, σ[1]? = some (some (.int z)) → tRef CN 1 (fun ws => [("figure", ws.getD 0 .non), ("word", .str "NoFigure")]) (tCons (tVar 1) tNil) σ H fun cls d H' => E cls d H' := fun e σ hσ =>
      ⟨.int z, hσ, rfl, (show (1 : Nat) ≤ 1000 by decide), fun dd H2 h1 h2 h3 => q1 e dd H2 (same_ref h1 h2) h3⟩
    refine ⟨.int z, rfl, 0, z, rfl, rfl, _, rfl, ?_⟩
    by_cases e0 : 0 ≤ z
    rotate_left
    · rw [decide_eq_false e0]
      exact iteF ⟨_, rfl, iteT (bad (fun y => e0 y.1) _ rfl)⟩
    rw [decide_eq_true e0]
    refine iteT ⟨.ref p, rfl, p, C, dx, _, _, rfl, hp, T.cl, T.nS, bkF_shapesX a b, b, _, rfl, .inr hb, z, _, rfl, rfl, _, rfl, ?_⟩
    by_cases e1 : z < ((xs.length : Nat) : Int)
    rotate_left
    · rw [decide_eq_false e1]
      exact iteT (bad (fun y => e1 (by rw [hxl]; exact y.2)) _ rfl)
    rw [decide_eq_true e1]
    obtain ⟨i, rfl⟩ : ∃ i : Nat, z = (i : Int) := ⟨z.toNat, by omega⟩
    have hi2 : i < xs.length := by omega
    obtain ⟨g, hg, hgT⟩ := hA.get (List.getElem?_eq_getElem hi2)
    refine iteF ⟨.ref p, rfl, p, C, dx, _, _, rfl, hp, T.cl, T.nS, bkF_shapesX a b, .int (i : Nat), rfl, b, xs, _, xs[i], rfl, rfl, hb, atI_nat (List.getElem?_eq_getElem hi2), ?_⟩
    refine q i rfl (by omega) _ ?_
    rw [List.getD_eq_getElem?_getD, hg]
    exact hgT
end
theorem getD_len100 {fs : List (List Tri)} (h : ∀ f ∈ fs, f.length ≤ 100) (i : Nat) : (fs.getD i []).length ≤ 100 := by
  rw [List.getD_eq_getElem?_getD]
  cases e : fs[i]? with
  | none => exact Nat.zero_le _
  | some f => exact h f (List.mem_of_getElem? e)
abbrev sMeetX : Stmt := inClass (topS 38) 5
abbrev nMeetX : List Str := ["self", "one", "other"]
theorem scMeetX : FnScope nMeetX ["self", "one", "other"] (defScope sMeetX) := ⟨rfl, rfl, rfl, by decide +kernel, rfl, by decide +kernel, by decide +kernel⟩
def spMeetX (K : PySem.W.Frag) (C CN : Addr) : Sp := fun vs H Q E => ∃ (p : Addr) (cs : List Int) (fs : List (List Tri)) (y z : Int), vs = [.ref p, .int y, .int z] ∧ BookAt K C H p cs fs ∧ (∀ f ∈ fs, f.length ≤ 100) ∧ (∀ f ∈ fs, PadsUp f) ∧ (∀ i j : Nat, y = (i : Int) → z = (j : Int) → i < fs.length → j < fs.length → ∀ H', Same H H' → Q (.bl (meetB (fs.getD i []) (fs.getD j []))) H') ∧ (¬ (0 ≤ y ∧ y < (fs.length : Nat)) → refuseN 24 CN [y] H E) ∧ (0 ≤ y ∧ y < (fs.length : Nat) → ¬ (0 ≤ z ∧ z < (fs.length : Nat)) → refuseN 24 CN [z] H E)
theorem getD_pads {fs : List (List Tri)} (h : ∀ f ∈ fs, PadsUp f) {i : Nat} (hi : i < fs.length) : PadsUp (fs.getD i []) := by
  rw [List.getD_eq_getElem?_getD, List.getElem?_eq_getElem hi]
  exact h _ (List.getElem_mem hi)
section
variable {P : Program} {w : World} {K : PySem.W.Frag} {mg : Str → Option Value} {base : Heap}
theorem ok_meetX {f C CN fS fM : Addr} {fd fdS fdM : FuncData} {k : Nat} (F : Fun K "meet" "Book.meet" sMeetX f fd) (T : BkTxt K mg C)
    (bS : Binds K fdS ["self", "at"] []) (mS : Meth K C "shape" fS) (GS : FnOk P w K mg base (L2.CX P w) (k + 1) fS fdS ["self", "at"] (spShpX K C CN))
    (FM : Fun K "mask_of" "mask_of" sMask fM fdM) (bM : Binds K fdM ["figure"] []) (gM : mg "mask_of" = some (.ref fM)) (GM : FnOk P w K mg base CX0 (k + 1) fM fdM ["figure"] (spMask K)) :
    FnOk P w K mg base (L2.CX P w) (k + 2) f fd ["self", "one", "other"] (spMeetX K C CN) := by
  refine F.okX scMeetX (fun vs H Q E h => ?_) (fun cdv A outer s H vs Q E hr h => ?_)
  · obtain ⟨p, cs, fs, y, z, rfl, _⟩ := h
    rfl
  · obtain ⟨p, cs, fs, y, z, rfl, hK, hl, hU, q, q1, q2⟩ := h
    obtain ⟨dx, a, b, xs, hp, ha, hb, hA⟩ := id hK
    refine ⟨_, pss_one (ps_ret (pe_cmpR op_ne (pe_op op_and (pe_call GM hr (by rfl) gM FM.kp bM .nil pass0 (pa_cons (pe_meth (pv 0) T.cl mS GS hr bS .nil (passes_call (takes_of rfl rfl rfl rfl) (fun _ _ _ _ h => h)) (pa_cons (pv 1) pa_nil)) pa_nil)) (pe_call GM hr (by rfl) gM FM.kp bM .nil pass0 (pa_cons (pe_meth (pv 0) T.cl mS GS hr bS .nil (passes_call (takes_of rfl rfl rfl rfl) (fun _ _ _ _ h => h)) (pa_cons (pv 2) pa_nil)) pa_nil))) pe_int (nomark _))), ?_⟩
    refine ⟨.ref p, rfl, p, dx, _, rfl, hp, rfl, .int y, rfl, p, cs, fs, y, rfl, hK, fun i ey hi v hv => ?_, q1⟩
    refine ⟨v, _, rfl, hv, getD_len100 hl i, getD_pads hU hi, fun H1 s1 => ?_⟩
    refine ⟨.ref p, rfl, p, dx, _, rfl, s1 _ _ hp, rfl, .int z, rfl, p, cs, fs, z, rfl, hK.same s1, fun j ez hj u hu => ?_, fun e => (q2 (by omega) e).later s1⟩
    refine ⟨u, _, rfl, hu, getD_len100 hl j, getD_pads hU hj, fun H2 s2 => ?_⟩
    refine ⟨_, _, rfl, rfl, rfl, ?_⟩
    have := q i j ey ez hi hj _ (s1.trans s2)
    rw [← mask_test (getD_pads hU hi) (getD_pads hU hj)] at this
    exact this
end
/-! ### _law_pads, _law_meet; a new book; a def that may raise, where it does not -/
theorem inV_mem (p : Int) (qs : List Int) : inV (.int p) (qs.map V.int) = decide (p ∈ qs) := by
  rw [inV_ints]
  by_cases h : p ∈ qs
  · rw [decide_eq_true h, List.any_eq_true]
    exact ⟨p, h, decide_eq_true rfl⟩
  · rw [decide_eq_false h, List.any_eq_false]
    intro x hx z
    exact h (by rw [← of_decide_eq_true z]; exact hx)
theorem BookAt.offL {K : PySem.W.Frag} {C : Addr} {H H' : Hp} {b q : Addr} {ys : List V} {cs : List Int} {fs : List (List Tri)} (h : BookAt K C H q cs fs) (e : Off b H H') (hb : H b = some (.lst ys)) (n : q ≠ b) : BookAt K C H' q cs fs := by
  obtain ⟨dx, a, b', xs, h1, h2, h3, h4⟩ := h
  have t : TS K H H' := TS.but e hb
  exact ⟨dx, a, b', xs, e _ _ n h1, t _ _ h2, t _ _ h3, h4.mono fun _ _ => FigT.ts t⟩
theorem bmake {K : PySem.W.Frag} {C : Addr} {H1 : Hp} {p d : Addr} {cs : List Int} {xs : List V} {fs : List (List Tri)} {Q : VK} {E : XK} (hp : SqL K H1 p (cs.map V.int)) (hd : SqL K H1 d xs) (hA : All2 (FigT K H1) xs fs) (hC : GoodC cs) (hG : GoodB cs fs) (hl : fs.length ≤ 12)
    {x dx : Addr} (nx : H1 x = none) (ndx : H1 dx = none) (nxd : dx ≠ x) (q : ∀ H', Same H1 H' → BookAt K C H' x cs fs → Q .non H') : spInit K C [.ref x, .ref p, .ref d] (upd (upd H1 dx (.own x)) x (.ins C dx [])) Q E := by
  have v1 := same_upd (o := .own x) ndx
  have nx1 : (upd H1 dx (.own x)) x = none := by
    rw [upd_ne nxd.symm]
    exact nx
  have v2 := same_upd (o := .ins C dx []) nx1
  have v12 := v1.trans v2
  refine ⟨x, dx, p, d, cs, xs, fs, rfl, upd_same, v12.seq hp, v12.seq hd, hA.mono fun _ _ => FigT.ts (TS.of v12), hC, hG, hl, fun H' off hb => ?_⟩
  have s14 : Same H1 H' := fun bb oo ee => off bb oo (ne_of_none ee nx) (v12 _ _ ee)
  exact q H' s14 hb
theorem calm {P : Program} {w : World} {K : PySem.W.Frag} {mg : Str → Option Value} {base : Heap} {k : Nat} {f : Addr} {fd : FuncData} {ps : List Str} {sp sp' : Sp} (F : FnOk P w K mg base (L2.CX P w) k f fd ps sp)
    (h : ∀ vs H Q E, sp' vs H Q E → sp vs H Q fun _ _ _ => False) : FnOk P w K mg base CX0 k f fd ps sp' :=
  ⟨fun vs H Q E q => F.len vs H Q _ (h _ _ _ _ q), fun A outer s H args us vs Q E hr he hb hv hs => codeAny_mono (F.run A outer s H args us vs Q _ hr he hb hv (h _ _ _ _ hs)) fun r s' q => by
    cases r with
    | ok fl =>
      cases fl with
      | ret u => exact q
      | next => exact q
      | brk => exact q
      | cont => exact q
    | error e =>
      obtain ⟨a, B, H', cls, d, h1, h2, h3, h4, h5, h6, h7, z⟩ := q
      exact z.elim⟩
abbrev sLPads : Stmt := topS 60
abbrev nLPads : List Str := ["_law_shape_here", "_law_pad", "_law_note", "_law_depth"]
theorem scLPads : FnScope nLPads ["_law_shape_here"] (defScope sLPads) := ⟨rfl, rfl, rfl, by decide +kernel, rfl, by decide +kernel, by decide +kernel⟩
abbrev sLMeet : Stmt := topS 61
abbrev nLMeet : List Str := ["_law_one", "_law_other", "_law_pad"]
theorem scLMeet : FnScope nLMeet ["_law_one", "_law_other"] (defScope sLMeet) := ⟨rfl, rfl, rfl, by decide +kernel, rfl, by decide +kernel, by decide +kernel⟩
def spLMeet (K : PySem.W.Frag) : Sp := fun vs H Q _ => ∃ (v u : V) (f g : List Tri), vs = [v, u] ∧ FigT K H v f ∧ FigT K H u g ∧ f.length ≤ 100 ∧ g.length ≤ 100 ∧ ∀ H', Same H H' → Q (.bl ((g.map (·.1)).any fun p => decide (p ∈ f.map (·.1)))) H'
section
variable {P : Program} {w : World} {K : PySem.W.Frag} {mg : Str → Option Value} {base : Heap}
theorem ok_lpads {f : Addr} {fd : FuncData} {k : Nat} (F : Fun K "_law_pads" "_law_pads" sLPads f fd) : FnOk P w K mg base CX0 (k + 1) f fd ["_law_shape_here"] (spPads K) := by
  refine F.ok scLPads (fun vs H Q E h => ?_) (fun cdv A outer s H vs Q E hr h => ?_)
  · obtain ⟨v, f, rfl, _⟩ := h
    rfl
  · obtain ⟨v, f, rfl, hV, hfl, q⟩ := h
    obtain ⟨a, xs, rfl, ha, hxs⟩ := hV
    refine ⟨_, pss_one (ps_ret (pe_lc (own := [("_law_pad", 1), ("_law_note", 2), ("_law_depth", 3)]) (g := g3 K 1 2 3) (tt := tYes) rfl scLPads.nd (pi_tup (pv 0))
        (blkOk_by (own := [("_law_pad", 1), ("_law_note", 2), ("_law_depth", 3)]) (N := nLPads) (sc := defScope sLPads) (by decide +kernel))
        (fun _ _ _ _ _ => pg_tup rfl (pgs_cons (pg_name (i := 1) scLPads.nd rfl (.inl rfl)) (pgs_cons (pg_name (i := 2) scLPads.nd rfl (.inl rfl)) (pgs_cons (pg_name (i := 3) scLPads.nd rfl (.inl rfl)) pgs_nil)))) (fun _ _ _ _ _ => pts_nil)
        (fun _ _ _ _ _ => pv 1))), ?_⟩
    refine ⟨.ref a, rfl, a, rfl, ⟨_, ha⟩, fun D nD => ?_⟩
    refine lc_tup (K := K) (a := a) (xs := xs) (fun i H' => Same H H' ∧ H' D = some (.lst (((f.take i).map (·.1)).map V.int))) ⟨same_upd nD, upd_same⟩ (fun i H' _ hP => Same.tup hP.1 ha) (fun i x H' hx hP => ?_) (fun H1 hP => ?_)
    · obtain ⟨sm, hD⟩ := hP
      obtain ⟨t, ht, tp, rfl, htp⟩ := hxs.get hx
      refine ⟨tp, triV t, rfl, Same.tup sm htp, rfl, _, _, rfl, _, _, rfl, _, _, rfl, rfl, rfl, yesT ⟨_, rfl, _, hD, ?_, Same.offUpd sm nD, ?_⟩⟩
      · rw [List.length_map, List.length_map, List.length_take]
        exact small1000 (by omega)
      · rw [upd_same, take_snoc ht, List.map_append, List.map_append]
        rfl
    · obtain ⟨sm, hD⟩ := hP
      rw [hxs.len, List.take_length] at hD
      exact q H1 D sm nD hD
theorem ok_lmeet {f fP : Addr} {fd fdP : FuncData} {k : Nat} (F : Fun K "_law_meet" "_law_meet" sLMeet f fd) (ma : mg "any" = none)
    (FP : Fun K "_law_pads" "_law_pads" sLPads fP fdP) (bP : Binds K fdP ["_law_shape_here"] []) (gP : mg "_law_pads" = some (.ref fP)) (GP : FnOk P w K mg base CX0 k fP fdP ["_law_shape_here"] (spPads K)) :
    FnOk P w K mg base CX0 (k + 1) f fd ["_law_one", "_law_other"] (spLMeet K) := by
  refine F.ok scLMeet (fun vs H Q E h => ?_) (fun cdv A outer s H vs Q E hr h => ?_)
  · obtain ⟨v, u, f, g, rfl, _⟩ := h
    rfl
  · obtain ⟨v, u, f, g, rfl, hV, hU, hfl, hgl, q⟩ := h
    refine ⟨_, pss_one (ps_ret (pe_callB (cr_any rfl) (by rfl) ma (by decide +kernel) (pa_cons (pe_lc (own := [("_law_pad", 2)]) (g := gName 2) (tt := tYes) rfl scLMeet.nd (pi_list (pe_call GP hr (by rfl) gP FP.kp bP .nil pass0 (pa_cons (pv 1) pa_nil)))
        (blkOk_by (own := [("_law_pad", 2)]) (N := nLMeet) (sc := defScope sLMeet) (by decide +kernel)) (fun _ _ _ _ _ => pg_name (i := 2) scLMeet.nd rfl (.inl rfl)) (fun _ _ _ _ _ => pts_nil)
        (fun _ _ _ _ _ => pe_cmpR (r := rIn K false) op_in_seq (pv 2) (pe_call GP hr (by rfl) gP FP.kp bP .nil pass0 (pa_cons (pv 0) pa_nil)) (by rfl))) pa_nil))), ?_⟩
    refine ⟨u, rfl, u, g, rfl, hU, hgl, fun H1 p1 s1 n1 hp1 => ?_⟩
    refine ⟨p1, rfl, ⟨_, SqL.of hp1⟩, fun D nD => ?_⟩
    refine lc_list (K := K) (a := p1) (xs := (g.map (·.1)).map V.int) (fun i H' => Same H1 H' ∧ H' D = some (.lst ((((g.map (·.1)).take i).map fun p => decide (p ∈ f.map (·.1))).map V.bl))) ⟨same_upd nD, upd_same⟩ (fun i H' _ hP => hP.1.seq (SqL.of hp1)) (fun i x H' hx hP => ?_) (fun H2 hP => ?_)
    · obtain ⟨sm, hD⟩ := hP
      rw [List.getElem?_map] at hx
      cases hp : (g.map (·.1))[i]? with
      | none => rw [hp] at hx; cases hx
      | some p =>
        rw [hp] at hx
        obtain rfl := Option.some.inj hx
        refine ⟨rfl, yesT ⟨.int p, rfl, v, rfl, v, f, rfl, hV.ts (TS.of (s1.trans sm)), hfl, fun H3 p3 s3 n3 hp3 => ?_⟩⟩
        refine ⟨p3, _, rfl, .inl (SqL.of hp3), rfl, flat_ints _, _, s3 _ _ hD, ?_, Same.offUpd (sm.trans s3) nD, ?_⟩
        · rw [List.length_map, List.length_map, List.length_take, List.length_map]
          exact small1000 (by omega)
        · rw [upd_same, take_snoc hp, List.map_append, List.map_append]
          show some (HO.lst (_ ++ [V.bl (inV (V.int p) ((f.map (·.1)).map V.int))])) = _
          rw [inV_mem]
          rfl
    · obtain ⟨sm, hD⟩ := hP
      rw [List.length_map, List.take_length] at hD
      refine ⟨D, _, rfl, SqL.of hD, ?_⟩
      have := q _ (s1.trans sm)
      rw [List.any_map]
      exact this
end
/-! ### alike -/
theorem lk_int {K : PySem.W.Frag} {H : Hp} {n : Nat} (i : Int) : Lk K H (n + 1) (.int i) (.int i) := .inl ⟨rfl, .inr (.inr (.inl ⟨i, rfl⟩))⟩
theorem lk_bl {K : PySem.W.Frag} {H : Hp} {n : Nat} (b : Bool) : Lk K H (n + 1) (.bl b) (.bl b) := .inl ⟨rfl, .inr (.inl ⟨b, rfl⟩)⟩
theorem lk_str {K : PySem.W.Frag} {H : Hp} {n : Nat} (z : Str) : Lk K H (n + 1) (.str z) (.str z) := .inl ⟨rfl, .inr (.inr (.inr ⟨z, rfl⟩))⟩
theorem lk_non {K : PySem.W.Frag} {H : Hp} {n : Nat} : Lk K H (n + 1) .non .non := .inl ⟨rfl, .inl rfl⟩
/-- two lists of things that are alike one by one -/
theorem lk_seq {K : PySem.W.Frag} {H : Hp} {n : Nat} {a b : Addr} {xs ys : List V} (h : (SqL K H a xs ∧ SqL K H b ys) ∨ (SqT K H a xs ∧ SqT K H b ys)) (hl : xs.length = ys.length) (h1 : xs.length ≤ 1000) (q : ∀ (i : Nat) (x y : V), xs[i]? = some x → ys[i]? = some y → Lk K H n x y) : Lk K H (n + 1) (.ref a) (.ref b) :=
  .inr ⟨a, b, xs, ys, rfl, rfl, h, hl, h1, q⟩
theorem ints_alike {K : PySem.W.Frag} {H : Hp} {n : Nat} (c : List Int) : ∀ (i : Nat) (x y : V), (c.map V.int)[i]? = some x → (c.map V.int)[i]? = some y → Lk K H (n + 1) x y := fun i x y hx hy => by
  rw [hx] at hy
  obtain rfl := Option.some.inj hy
  rw [List.getElem?_map] at hx
  cases hz : c[i]? with
  | none => rw [hz] at hx; cases hx
  | some z =>
    rw [hz] at hx
    obtain rfl := Option.some.inj hx
    exact lk_int z
theorem lk_intL {K : PySem.W.Frag} {H : Hp} {n : Nat} {a b : Addr} {c : List Int} (h1 : SqL K H a (c.map V.int)) (h2 : SqL K H b (c.map V.int)) (hl : c.length ≤ 1000) : Lk K H (n + 2) (.ref a) (.ref b) :=
  lk_seq (.inl ⟨h1, h2⟩) rfl (by rw [List.length_map]; exact hl) (ints_alike c)
theorem lk_intT {K : PySem.W.Frag} {H : Hp} {n : Nat} {a b : Addr} {c : List Int} (h1 : SqT K H a (c.map V.int)) (h2 : SqT K H b (c.map V.int)) (hl : c.length ≤ 1000) : Lk K H (n + 2) (.ref a) (.ref b) :=
  lk_seq (.inr ⟨h1, h2⟩) rfl (by rw [List.length_map]; exact hl) (ints_alike c)
theorem lk_two {α : Type} {K : PySem.W.Frag} {H : Hp} {n : Nat} {R S : V → α → Prop} {xs ys : List V} {as : List α} (h1 : All2 R xs as) (h2 : All2 S ys as) (q : ∀ x y a, a ∈ as → R x a → S y a → Lk K H n x y) : ∀ (i : Nat) (x y : V), xs[i]? = some x → ys[i]? = some y → Lk K H n x y := fun i x y hx hy => by
  obtain ⟨a, ha, r⟩ := h1.get hx
  obtain ⟨b, hb, s⟩ := h2.get hy
  rw [ha] at hb
  obtain rfl := Option.some.inj hb
  exact q x y a (List.mem_of_getElem? ha) r s
theorem lk_lists {K : PySem.W.Frag} {H : Hp} {n : Nat} {a b : Addr} {xs ys : List V} {ts : List (List Int)} (h1 : SqL K H a xs) (h2 : SqL K H b ys) (h3 : All2 (fun v t => ∃ a, v = .ref a ∧ SqL K H a (t.map V.int)) xs ts) (h4 : All2 (fun v t => ∃ a, v = .ref a ∧ SqL K H a (t.map V.int)) ys ts) (hl : ts.length ≤ 1000) (hd : ∀ t ∈ ts, t.length ≤ 1000) : Lk K H (n + 3) (.ref a) (.ref b) :=
  lk_seq (.inl ⟨h1, h2⟩) (by rw [h3.len, h4.len]) (by rw [h3.len]; exact hl) (lk_two h3 h4 fun x y t ht ⟨c, e1, r1⟩ ⟨d, e2, r2⟩ => by
    subst e1
    subst e2
    exact lk_intL r1 r2 (hd t ht))
/-! ### the law of k04 -/
abbrev sLaw : Stmt := topS 65
abbrev nLaw : List Str := ["_law_script", "_law_bag_here", "_law_colours", "_law_shapes_here", "_law_one", "_law_other", "_law_asks", "_law_found", "_law_bad", "_law_book", "_law_worse", "_law_ask"]
theorem scLaw : FnScope nLaw ["_law_script"] (defScope sLaw) := ⟨rfl, rfl, rfl, by decide +kernel, rfl, by decide +kernel, by decide +kernel⟩
def qnL : Str := (envOfC "law" (defScope sLaw) 0 0 .none).qual ++ "<lambda>"
def tabL (pL : Addr) : List (Addr × Str) := [(pL, qnL)]
def spLaw (K : PySem.W.Frag) (pL : Addr) : Sp := fun vs H Q _ => ∃ (a : Addr) (ns : List Int), vs = [.ref a] ∧ SqL K H a (ns.map V.int) ∧ ns.length ≤ 63 ∧ H pL = some (.tbl #[]) ∧ ∀ H', Q (.bl true) H'
/-- the lambdas as they are written -/
def askE (j : Nat) : Expr := match ((defBody sLaw)[6]? : Option Stmt) with
  | some (Stmt.Assign _ (Expr.List es _) _) => es.getD j (.Constant .none 0 ⟨0, 0, 0, 0⟩)
  | _ => .Constant .none 0 ⟨0, 0, 0, 0⟩
def askA (j : Nat) : Arguments := match askE j with
  | .Lambda a _ _ _ => a
  | _ => ⟨[], [], none, [], [], none, []⟩
def askB (j : Nat) : Expr := match askE j with
  | .Lambda _ b _ _ => b
  | e => e
def askS (j : Nat) : Scope := match askE j with
  | .Lambda _ _ s _ => s
  | _ => defScope sLaw
def askP : Nat → List Str
  | 0 => []
  | 1 => ["_law_a"]
  | _ => ["_law_a", "_law_b"]
def askF : Nat → List Str
  | 0 => ["_law_bad", "_law_book", "_law_worse"]
  | 1 => ["_law_book", "_law_worse"]
  | _ => ["_law_bad", "_law_book"]
def askJ : Nat → List Nat
  | 0 => [8, 9, 10]
  | 1 => [9, 10]
  | _ => [8, 9]
def askT (K : PySem.W.Frag) (C CN : Addr) : Nat → XK → TE
  | 0 => fun E => tMeth C "meet" (spMeetX K C CN) [] E (tVar 1) (tCons (tVar 0) (tCons (tVar 2) tNil))
  | 1 => fun E => tMeth C "meet" (spMeetX K C CN) [] E (tVar 1) (tCons (tC (.int 0)) (tCons (tVar 2) tNil))
  | _ => fun E => tMeth C "meet" (spMeetX K C CN) [] E (tVar 3) (tCons (tVar 2) (tCons (tC (.int 0)) tNil))
def askD (K : PySem.W.Frag) (C CN : Addr) (cells : List (Str × Addr)) (j : Nat) : LamD :=
  ⟨fun c' dV => ⟨qnL, askA j, askB j, askS j, cloFrom cells (askS j).names [], c', dV⟩, askP j, askF j, (askP j).map fun _ => 0, askT K C CN j⟩
section
open LamX NdefX
theorem ask_ok {X : Cx} {C CN fMt : Addr} {fdMt : FuncData} {k : Nat} {pins0 : List (Addr × Obj)} {σ0 : L2.St} {H0 : Hp} {s0 : Shared} {scope : Scope} {ce : Env} {fp : List Addr} (hsc : X.env.scope = defScope sLaw) (hN : X.N = nLaw) (I0 : Inv X pins0 σ0 H0 s0) (hfp : ∀ b ∈ fp, FpOk X pins0 H0 b)
    (TB : BkTxt X.K X.mg C) (bMt : L2.Binds X.K fdMt ["self", "one", "other"] []) (mMt : Meth X.K C "meet" fMt) (G : FnOk X.prog X.w X.K X.mg X.base (L2.CX X.prog X.w) k fMt fdMt ["self", "one", "other"] (spMeetX X.K C CN)) :
    ∀ j, j < 3 → LamK (X.blk s0 H0 scope ce fp) k qnL (askD X.K C CN X.env.cells j) ((askJ j).map (slotAt σ0)) := by
  intro j hj
  match j, hj with
  | 0, _ =>
    refine ⟨fun _ _ => nscope_by (N := askP 0 ++ askF 0) (ps := askP 0) (fr := askF 0) (sc := askS 0) (by decide +kernel), fun _ _ => rfl, fun _ _ => rfl, fun _ _ => rfl, .inl ⟨rfl, fun _ _ _ _ => rfl⟩, rfl, fun c' dV pins σ H s I => cells_blk (lsc := askS 0) (fr := askF 0) I0 hfp (by rw [hsc]; exact ndef_free (sc := defScope sLaw) (nsc := askS 0) (fr := askF 0) (by decide +kernel)) (ndef_fr (sc := defScope sLaw) (nsc := askS 0) (by decide +kernel)) (by rw [hN]; rfl) I, fun c' dV f A outer s H E hr2 => ?_⟩
    exact pe_meth (pv 1) TB.cl mMt G hr2 bMt .nil (passes_call (takes_of rfl rfl rfl rfl) (fun _ _ _ _ h => h)) (pa_cons (pv 0) (pa_cons (pv 2) pa_nil))
  | 1, _ =>
    refine ⟨fun _ _ => nscope_by (N := askP 1 ++ askF 1) (ps := askP 1) (fr := askF 1) (sc := askS 1) (by decide +kernel), fun _ _ => rfl, fun _ _ => rfl, fun _ _ => rfl, .inr ⟨fun z => (nomatch z), fun c' dV doc pm ctv us hl => match us, hl with | [_], _ => ⟨_, rfl, rfl⟩⟩, rfl, fun c' dV pins σ H s I => cells_blk (lsc := askS 1) (fr := askF 1) I0 hfp (by rw [hsc]; exact ndef_free (sc := defScope sLaw) (nsc := askS 1) (fr := askF 1) (by decide +kernel)) (ndef_fr (sc := defScope sLaw) (nsc := askS 1) (by decide +kernel)) (by rw [hN]; rfl) I, fun c' dV f A outer s H E hr2 => ?_⟩
    exact pe_meth (pv 1) TB.cl mMt G hr2 bMt .nil (passes_call (takes_of rfl rfl rfl rfl) (fun _ _ _ _ h => h)) (pa_cons pe_int (pa_cons (pv 2) pa_nil))
  | 2, _ =>
    refine ⟨fun _ _ => nscope_by (N := askP 2 ++ askF 2) (ps := askP 2) (fr := askF 2) (sc := askS 2) (by decide +kernel), fun _ _ => rfl, fun _ _ => rfl, fun _ _ => rfl, .inr ⟨fun z => (nomatch z), fun c' dV doc pm ctv us hl => match us, hl with | [_, _], _ => ⟨_, rfl, rfl⟩⟩, rfl, fun c' dV pins σ H s I => cells_blk (lsc := askS 2) (fr := askF 2) I0 hfp (by rw [hsc]; exact ndef_free (sc := defScope sLaw) (nsc := askS 2) (fr := askF 2) (by decide +kernel)) (ndef_fr (sc := defScope sLaw) (nsc := askS 2) (by decide +kernel)) (by rw [hN]; rfl) I, fun c' dV f A outer s H E hr2 => ?_⟩
    exact pe_meth (pv 3) TB.cl mMt G hr2 bMt .nil (passes_call (takes_of rfl rfl rfl rfl) (fun _ _ _ _ h => h)) (pa_cons (pv 2) (pa_cons pe_int pa_nil))
end
/-! ### the law of k04, as a whole -/
structure S04 (K : PySem.W.Frag) (C b c e x : Addr) (cs : List Int) (xs : List V) (fs : List (List Tri)) (H : Hp) : Prop where
  bag : Bag H b c
  shps : H e = some (.lst xs)
  figs : All2 (FigT K H) xs fs
  book : BookAt K C H x cs fs
theorem S04.same {K : PySem.W.Frag} {C b c e x : Addr} {cs : List Int} {xs : List V} {fs : List (List Tri)} {H H' : Hp} (h : S04 K C b c e x cs xs fs H) (s : Same H H') : S04 K C b c e x cs xs fs H' :=
  ⟨h.bag.same s, s _ _ h.shps, h.figs.mono fun _ _ => FigT.ts (TS.of s), h.book.same s⟩
theorem S04.off {K : PySem.W.Frag} {C b c e x : Addr} {cs : List Int} {xs : List V} {fs : List (List Tri)} {H H' : Hp} (h : S04 K C b c e x cs xs fs H) (o : Off b H H') (hB : Bag H' b c) (eb : e ≠ b) (xb : x ≠ b) : S04 K C b c e x cs xs fs H' := by
  obtain ⟨cells, a', r, s, h1, _⟩ := h.bag.ex
  exact ⟨hB, o _ _ eb h.shps, h.figs.mono fun _ _ => FigT.ts (TS.bag o h.bag), h.book.offL o h1 xb⟩
theorem bag_lst4 {H : Hp} {b c : Addr} (h : Bag H b c) : ∃ l, H b = some (.lst l) := by
  obtain ⟨cells, a, r, s, h1, _⟩ := h.ex
  exact ⟨_, h1⟩
theorem tabs_off4 {T : List (Addr × Str)} {H H' : Hp} {b c : Addr} (t : LamX.Tabs T H) (hB : Bag H b c) (o : Off b H H') : LamX.Tabs T H' := fun p hp => by
  obtain ⟨l, hl⟩ := bag_lst4 hB
  obtain ⟨ps, h1, h2, h3⟩ := t p hp
  refine ⟨ps, o _ _ (fun z => by rw [z, hl] at h1; cases h1) h1, h2, fun pos cv hc => ?_⟩
  obtain ⟨c', e1, e2⟩ := h3 pos cv hc
  exact ⟨c', e1, o _ _ (fun z => by rw [z, hl] at e2; unfold LamX.CodeO at e2; cases e2) e2⟩
theorem book_ext4 {K : PySem.W.Frag} {C : Addr} {H H' : Hp} {p : Addr} {cs : List Int} {fs : List (List Tri)} (h : BookAt K C H p cs fs) (e : LamX.ExtN H H') : BookAt K C H' p cs fs := by
  have sq : ∀ {a : Addr} {xs : List V}, SqT K H a xs → SqT K H' a xs := fun {a xs} h => by
    rcases h with (q | ⟨ob, q⟩) | q
    · exact .inl (.inl (e _ _ q fun _ z => nomatch z))
    · exact .inl (.inr ⟨ob, e _ _ q (fun _ z => nomatch z)⟩)
    · exact .inr q
  obtain ⟨dx, a, b, xs, h1, h2, h3, h4⟩ := h
  exact ⟨dx, a, b, xs, e _ _ h1 (fun _ z => nomatch z), sq h2, sq h3, h4.mono fun _ _ => FigT.ts fun _ _ z => sq z⟩
def spMeetC (K : PySem.W.Frag) (C : Addr) : Sp := fun vs H Q _ => ∃ (p : Addr) (cs : List Int) (fs : List (List Tri)) (i j : Nat), vs = [.ref p, .int (i : Nat), .int (j : Nat)] ∧ BookAt K C H p cs fs ∧ (∀ f ∈ fs, f.length ≤ 100) ∧ (∀ f ∈ fs, PadsUp f) ∧ i < fs.length ∧ j < fs.length ∧ ∀ H', Same H H' → Q (.bl (meetB (fs.getD i []) (fs.getD j []))) H'
theorem lk_pair4 {K : PySem.W.Frag} {H : Hp} {n : Nat} {a b : Addr} {z : Str} {x y : V} (h1 : SqT K H a [.str z, x]) (h2 : SqT K H b [.str z, y]) (h : Lk K H (n + 1) x y) : Lk K H (n + 2) (.ref a) (.ref b) :=
  lk_seq (.inr ⟨h1, h2⟩) rfl (show (2 : Nat) ≤ 1000 by decide) fun i x' y' hx hy => by
    match i, hx, hy with
    | 0, hx, hy =>
      obtain rfl := Option.some.inj hx
      obtain rfl := Option.some.inj hy
      exact lk_str z
    | 1, hx, hy =>
      obtain rfl := Option.some.inj hx
      obtain rfl := Option.some.inj hy
      exact h
theorem meet_any (f g : List Tri) : (g.map (·.1)).any (fun p => decide (p ∈ f.map (·.1))) = meetB f g := by
  rw [Bool.eq_iff_iff, meetB_iff, List.any_eq_true]
  constructor
  · rintro ⟨p, h1, h2⟩
    obtain ⟨u, hu, rfl⟩ := List.mem_map.mp h1
    obtain ⟨t, ht, e⟩ := List.mem_map.mp (of_decide_eq_true h2)
    exact ⟨t, ht, u, hu, e.symm⟩
  · rintro ⟨t, ht, u, hu, e⟩
    exact ⟨u.1, List.mem_map.mpr ⟨u, hu, rfl⟩, decide_eq_true (List.mem_map.mpr ⟨t, ht, e.symm⟩)⟩
section
variable {P : Program} {w : World} {K : PySem.W.Frag} {mg : Str → Option Value} {base : Heap}
theorem meetC {f C CN : Addr} {fd : FuncData} {k : Nat} (G : FnOk P w K mg base (L2.CX P w) k f fd ["self", "one", "other"] (spMeetX K C CN)) : FnOk P w K mg base CX0 k f fd ["self", "one", "other"] (spMeetC K C) := calm G fun vs H Q E h => by
  obtain ⟨p, cs, fs, i, j, rfl, hB, h1, h2, hi, hj, q⟩ := h
  refine ⟨p, cs, fs, _, _, rfl, hB, h1, h2, fun i' j' e1 e2 _ _ H' s => ?_, fun bad => absurd ⟨by omega, by omega⟩ bad, fun _ bad => absurd ⟨by omega, by omega⟩ bad⟩
  obtain rfl : i = i' := by omega
  obtain rfl : j = j' := by omega
  exact q H' s
theorem ok_law04 {f C CN fB fHu fSs fI fMt fMe fS fTr fK cL pL : Addr} {fdB fdHu fdSs fdI fdMt fdMe fdS fdTr fdK : FuncData} {gI : List Value → List Value → List Value} {cm : Nat → Addr} {oc kV doc pm ct : Value} {od an : Option Addr} {osl : Array (Option Value)}
    (lk : K.lookup f = some ⟨oc, od, .func (PySem.W.fnOf "law" "law" (defArgs sLaw) (defBody sLaw) (defScope sLaw) .none kV doc pm an (.ref cL) ct), osl⟩) (hcd : PySem.W.codeIn K (.ref cL) "law" = true) (tb : LamX.TabB base mg cL pL) (hCN : CN = cm 24)
    (TB : BkTxt K mg C)
    (FB : Fun K "_law_bag" "_law_bag" sBag fB fdB) (bB : Binds K fdB ["_law_script"] []) (gB : mg "_law_bag" = some (.ref fB)) (GB : FnOk P w K mg base CX0 12 fB fdB ["_law_script"] (spBag K))
    (FHu : Fun K "_law_hues" "_law_hues" sHues fHu fdHu) (bHu : Binds K fdHu ["_law_bag_here", "_law_most"] []) (gHu : mg "_law_hues" = some (.ref fHu)) (GHu : FnOk P w K mg base CX0 12 fHu fdHu ["_law_bag_here", "_law_most"] spHues)
    (FSs : Fun K "_law_shapes" "_law_shapes" sShapes fSs fdSs) (bSs : Binds K fdSs ["_law_bag_here", "_law_colours", "_law_most"] []) (gSs : mg "_law_shapes" = some (.ref fSs)) (GSs : FnOk P w K mg base CX0 12 fSs fdSs ["_law_bag_here", "_law_colours", "_law_most"] (spShapes K))
    (MI : Mk K C fI) (kI : KBn K fdI ["self", "colours", "figures"] 2 ["figures"] gI (fun vs zs => vs ++ zs)) (GI : FnOk P w K mg base CX0 11 fI fdI ["self", "colours", "figures"] (spInit K C))
    (bMt : Binds K fdMt ["self", "one", "other"] []) (mMt : Meth K C "meet" fMt) (GMX : FnOk P w K mg base (L2.CX P w) 10 fMt fdMt ["self", "one", "other"] (spMeetX K C CN)) (GMt : FnOk P w K mg base CX0 12 fMt fdMt ["self", "one", "other"] (spMeetC K C))
    (FMe : Fun K "_law_meet" "_law_meet" sLMeet fMe fdMe) (bMe : Binds K fdMe ["_law_one", "_law_other"] []) (gMe : mg "_law_meet" = some (.ref fMe)) (GMe : FnOk P w K mg base CX0 12 fMe fdMe ["_law_one", "_law_other"] (spLMeet K))
    (FS : Fun K "_law_strange" "_law_strange" sStr fS fdS) (bS : Binds K fdS ["_law_bag_here", "_law_many"] []) (gS : mg "_law_strange" = some (.ref fS)) (GS : FnOk P w K mg base CX0 12 fS fdS ["_law_bag_here", "_law_many"] spStr)
    (FTr : Fun K "_law_tried" "_law_tried" sTried fTr fdTr) (bTr : Binds K fdTr ["_law_act"] []) (gTr : mg "_law_tried" = some (.ref fTr))
    (FK : Fun K "_law_like" "_law_like" sLike fK fdK) (bK : Binds K fdK ["_law_one", "_law_due"] []) (gK : mg "_law_like" = some (.ref fK)) (GK0 : FnOk P w K mg base CX0 5 fK fdK ["_law_one", "_law_due"] (spLike K 5))
    (RT : RefsT K mg cm) (mr : mg "range" = none) (ml : mg "len" = none) :
    FnOk P w K mg base CX0 13 f (PySem.W.fnOf "law" "law" (defArgs sLaw) (defBody sLaw) (defScope sLaw) .none kV doc pm an (.ref cL) ct) ["_law_script"] (spLaw K pL) := by
  have GK := GK0.mono (show 5 ≤ 12 by decide)
  refine fn_of lk hcd scLaw (fun vs H Q E h => ?_) (fun A outer s H vs Q E hr h => ?_)
  · obtain ⟨a, ns, rfl, _⟩ := h
    rfl
  · obtain ⟨a, ns, rfl, hS, hlen, hP, q⟩ := h
    have hmT : (pL, qnL) ∈ tabL pL := List.mem_singleton.mpr rfl
    have huT : ∀ p ∈ tabL pL, p.1 = pL → p.2 = qnL := fun p hp _ => by rw [List.mem_singleton.mp hp]
    refine ⟨_, PSs.nox (pss_cons (ps_set (i := 1) scLaw.nd rfl (.inl rfl) (pe_call GB hr (by rfl) gB FB.kp bB .nil pass0 (pa_cons (pv 0) pa_nil)))
      (pss_cons (ps_set (i := 2) scLaw.nd rfl (.inl rfl) (pe_call GHu hr (by rfl) gHu FHu.kp bHu .nil pass0 (pa_cons (pv 1) (pa_cons pe_int pa_nil))))
      (pss_cons (ps_set (i := 3) scLaw.nd rfl (.inl rfl) (pe_call GSs hr (by rfl) gSs FSs.kp bSs .nil pass0 (pa_cons (pv 1) (pa_cons (pv 2) (pa_cons pe_int pa_nil)))))
      (pss_cons (ps_set (i := 9) scLaw.nd rfl (.inr rfl) (pe_makeK (n := 1) MI GI hr (by rfl) TB.mgC kI pass0 (pa_cons (pv 2) pa_nil) (pk_cons (pv 3) pk_nil)))
      (pss_cons (ps_for PassesOwn.never rfl (pi_range1 (by rfl) mr (pa_cons (pe_callB call_lenQ (by rfl) ml PySem.boot_len (pa_cons (pv 3) pa_nil)) pa_nil)) (pg_name (i := 4) scLaw.nd rfl (.inl rfl)) (pss_one (ps_for PassesOwn.never rfl (pi_range1 (by rfl) mr (pa_cons (pe_callB call_lenQ (by rfl) ml PySem.boot_len (pa_cons (pv 3) pa_nil)) pa_nil)) (pg_name (i := 5) scLaw.nd rfl (.inl rfl)) (pss_one (ps_if (pt_not (pt_val (pe_call GK hr (by rfl) gK FK.kp bK .nil pass0 (pa_cons (pe_meth (pv 9) TB.cl mMt GMt hr bMt .nil pass0 (pa_cons (pv 4) (pa_cons (pv 5) pa_nil))) (pa_cons (pe_call GMe hr (by rfl) gMe FMe.kp bMe .nil pass0 (pa_cons (pe_ix ix_list (pv 3) (pv 4) (fun _ _ => rfl)) (pa_cons (pe_ix ix_list (pv 3) (pv 5) (fun _ _ => rfl)) pa_nil))) pa_nil))))) (pss_one (ps_ret pe_bl)) pss_nil)))))
      (pss_cons (ps_asg (pe_tup (pa_cons (pe_call GS hr (by rfl) gS FS.kp bS .nil pass0 (pa_cons (pv 1) (pa_cons (pe_callB call_lenQ (by rfl) ml PySem.boot_len (pa_cons (pv 3) pa_nil)) pa_nil))) (pa_cons (pe_call GS hr (by rfl) gS FS.kp bS .nil pass0 (pa_cons (pv 1) (pa_cons (pe_callB call_lenQ (by rfl) ml PySem.boot_len (pa_cons (pv 3) pa_nil)) pa_nil))) pa_nil))) (pg_tup (by rfl) (pgs_cons (pg_name (i := 8) scLaw.nd rfl (.inr rfl)) (pgs_cons (pg_name (i := 10) scLaw.nd rfl (.inr rfl)) pgs_nil))))
      (pss_cons (ps_set (i := 6) scLaw.nd rfl (.inl rfl) (pe_lst (pa_cons (pe_lamv0 (T := tabL pL) tb rfl hmT huT (NdefX.ndef_free (sc := defScope sLaw) (fr := askF 0) (by decide +kernel)) rfl) (pa_cons (pe_lamvD (T := tabL pL) (ds := [0]) tb rfl hmT huT (NdefX.ndef_free (sc := defScope sLaw) (fr := askF 1) (by decide +kernel)) rfl rfl (List.cons_ne_nil _ _) (by decide) ⟨pe_int, True.intro⟩) (pa_cons (pe_lamvD (T := tabL pL) (ds := [0, 0]) tb rfl hmT huT (NdefX.ndef_free (sc := defScope sLaw) (fr := askF 2) (by decide +kernel)) rfl rfl (List.cons_ne_nil _ _) (by decide) ⟨pe_int, pe_int, True.intro⟩) pa_nil)))))
      (pss_cons (ps_setLcI (i := 7) (own := [("_law_ask", 11)]) (g := gName 11) (tt := tYes) (te := fun σ => tTriedV cm qnL 3 11 (askD K C CN (envOfC "law" (defScope sLaw) s.heap.objs.size f (.ref cL)).cells) (fun j => (askJ j).map (NdefX.slotAt σ))) rfl scLaw.nd rfl rfl (sw_true rfl rfl rfl (by decide +kernel)) (pi_list (pv 6)) (blkOk_by (own := [("_law_ask", 11)]) (N := nLaw) (sc := defScope sLaw) (by decide +kernel)) (fun _ _ _ _ _ => pg_name (i := 11) scLaw.nd rfl (.inl rfl)) (fun _ _ _ _ _ => pts_nil) (fun _ _ _ _ _ _ _ I0 hfp => pe_triedV (k := 10) RT FTr gTr bTr hr (by rfl) rfl (.inl rfl) (ask_ok rfl rfl I0 hfp TB bMt mMt GMX)))
      (pss_one (ps_ret (pe_call GK hr (by rfl) gK FK.kp bK .nil pass0 (pa_cons (pv 7) (pa_cons (pe_lst (pa_cons (pe_tup (pa_cons pe_str (pa_cons (pv 8) pa_nil))) (pa_cons (pe_tup (pa_cons pe_str (pa_cons (pv 10) pa_nil))) (pa_cons (pe_tup (pa_cons pe_str (pa_cons (pv 8) pa_nil))) pa_nil)))) pa_nil))))))))))))), ?_⟩
    refine ⟨.ref a, rfl, a, ns, rfl, hS, hlen, fun H1 b c s1 hB _ => ?_⟩
    have hT1 : LamX.Tabs (tabL pL) H1 := fun p hp => by
      rw [List.mem_singleton.mp hp]
      exact LamX.TabS.nil (s1 _ _ hP)
    refine ⟨.ref b, rfl, b, c, 6, rfl, hB, by decide, by decide, fun H2 d cs off2 hB2 nd2 hdb hd hc1 hc6 hcs => ?_⟩
    have hT2 := tabs_off4 hT1 hB off2
    refine ⟨.ref b, rfl, .ref d, rfl, b, c, d, cs, 8, rfl, hB2, hd, hdb, hc1, by omega, hcs, by decide, fun H3 e xs fs off3 hB3 ne3 heb he hA hG hfl hne => ?_⟩
    have hT3 := tabs_off4 hT2 hB2 off3
    have hd3 := off3 _ _ hdb hd
    refine ⟨.ref d, rfl, .ref e, rfl, rfl, rfl, fun x dx nx ndx nxd => ?_⟩
    refine bmake (C := C) (fs := fs) (SqL.of hd3) (SqL.of he) hA ⟨hc1, by omega, hcs⟩ hG (by omega) nx ndx nxd (fun H4 s4 hX => ⟨rfl, ?_⟩)
    have S4 : S04 K C b c e x cs xs fs H4 := ⟨hB3.same s4, s4 _ _ he, hA.mono fun _ _ => FigT.ts (TS.of s4), hX⟩
    have hT4 := hT3.ext s4
    have xb : x ≠ b := (hB3.ne nx).1
    have hfl1 : ∀ f ∈ fs, f.length ≤ 100 := fun f hf => by
      have := (hG.all f hf).len
      omega
    have hpu : ∀ f ∈ fs, PadsUp f := fun f hf => (hG.all f hf).padsUp (by omega)
    have xl := S4.figs.len
    clear hB hB2 hB3 hT1 hT2 hT3 off2 off3 hd hd3 he hA nd2 ne3 nx ndx nxd s4 s1 hX hS hP
    -- each two
    have lt62 : ((xs.length : Nat) : Int) < 2 ^ 62 := Int.lt_of_le_of_lt (show ((xs.length : Nat) : Int) ≤ 12 by omega) (by decide)
    refine ⟨.ref e, rfl, e, _, rfl, .inl (SqL.of S4.shps), _, rfl, by omega, lt62, for_range (lo := 0) (n := xs.length) (fun i σ H' => ∃ (y0 y4 y5 y6 y7 y8 y10 y11 : Option V), σ = [y0, some (.ref b), some (.ref d), some (.ref e), y4, y5, y6, y7, y8, some (.ref x), y10, y11] ∧ LamX.Tabs (tabL pL) H' ∧ S04 K C b c e x cs xs fs H') ⟨_, _, _, _, _, _, _, _, rfl, hT4, S4⟩ ?_ ?_⟩
    · clear hT4 S4
      rintro i σ H5 hi ⟨y0, y4, y5, y6, y7, y8, y10, y11, rfl, hT5, S5⟩
      refine ⟨.ref e, rfl, e, _, rfl, .inl (SqL.of S5.shps), _, rfl, by omega, lt62, for_range (lo := 0) (n := xs.length) (fun j σ H' => ∃ (y0 y5 y6 y7 y8 y10 y11 : Option V), σ = [y0, some (.ref b), some (.ref d), some (.ref e), some (.int (0 + (i : Nat))), y5, y6, y7, y8, some (.ref x), y10, y11] ∧ LamX.Tabs (tabL pL) H' ∧ S04 K C b c e x cs xs fs H') ⟨_, _, _, _, _, _, _, rfl, hT5, S5⟩ ?_ ?_⟩
      · clear hT5 S5
        rintro j σ H6 hj ⟨y0, y5, y6, y7, y8, y10, y11, rfl, hT6, S6⟩
        obtain ⟨dxb, ab, bb, xb', hxx, _⟩ := id S6.book
        refine ⟨.ref x, rfl, x, dxb, _, rfl, hxx, rfl, .int (0 + (i : Nat)), rfl, .int (0 + (j : Nat)), rfl, x, cs, fs, i, j, by rw [Int.zero_add, Int.zero_add]; rfl, S6.book, hfl1, hpu, by omega, by omega, fun H7 s7 => ?_⟩
        have S7 := S6.same s7
        obtain ⟨vi, hvi, hfi⟩ := S7.figs.at (List.getElem?_eq_getElem (show i < fs.length by omega))
        obtain ⟨vj, hvj, hfj⟩ := S7.figs.at (List.getElem?_eq_getElem (show j < fs.length by omega))
        refine ⟨.ref e, rfl, .int (0 + (i : Nat)), rfl, e, xs, _, vi, rfl, rfl, SqL.of S7.shps, by rw [Int.zero_add]; exact atI_nat hvi, .ref e, rfl, .int (0 + (j : Nat)), rfl, e, xs, _, vj, rfl, rfl, SqL.of S7.shps, by rw [Int.zero_add]; exact atI_nat hvj, vi, vj, _, _, rfl, hfi, hfj, hfl1 _ (List.getElem_mem _), hfl1 _ (List.getElem_mem _), fun H8 s8 => ?_⟩
        rw [meet_any, show fs.getD i [] = fs[i] from by rw [List.getD_eq_getElem?_getD, List.getElem?_eq_getElem (by omega)]; rfl, show fs.getD j [] = fs[j] from by rw [List.getD_eq_getElem?_getD, List.getElem?_eq_getElem (by omega)]; rfl]
        refine ⟨_, _, rfl, lk_bl (n := 4) _, fun H9 s9 => ⟨_, rfl, iteF ?_⟩⟩
        have s69 := s7.trans (s8.trans s9)
        exact ⟨_, _, _, _, _, _, _, rfl, hT6.ext s69, S6.same s69⟩
      · rintro σ H6 ⟨y0, y5, y6, y7, y8, y10, y11, rfl, hT6, S6⟩
        exact ⟨_, _, _, _, _, _, _, _, rfl, hT6, S6⟩
    clear hT4 S4
    rintro σ H5 ⟨y0, y4, y5, y6, y7, y8, y10, y11, rfl, hT5, S5⟩
    -- bad, worse
    refine ⟨.ref b, rfl, .ref e, rfl, e, _, rfl, .inl (SqL.of S5.shps), b, c, _, rfl, S5.bag, fun H6 bad off6 hB6 hbad => ?_⟩
    have S6 := S5.off off6 hB6 heb xb
    have hT6 := tabs_off4 hT5 S5.bag off6
    refine ⟨.ref b, rfl, .ref e, rfl, e, _, rfl, .inl (SqL.of S6.shps), b, c, _, rfl, S6.bag, fun H7 worse off7 hB7 hworse => ?_⟩
    have S7 := S6.off off7 hB7 heb xb
    have hT7 := tabs_off4 hT6 S6.bag off7
    clear S5 hT5 off6 hB6 S6 hT6 off7 hB7
    refine ⟨(show (2 : Nat) ≤ sizeLine by decide), fun tp ntp => ?_⟩
    have u8 := same_upd (o := .tup [V.int bad, V.int worse]) ntp
    refine ⟨tp, _, rfl, SqT.of upd_same, rfl, _, _, rfl, _, _, rfl, rfl, ?_⟩
    have hX8 := S7.book.same u8
    have hT8 := hT7.ext u8
    generalize upd H7 tp (.tup [V.int bad, V.int worse]) = H8 at hX8 hT8 ⊢
    clear S7 hT7 u8 ntp
    have hb1 : ¬ (0 ≤ bad ∧ bad < (fs.length : Nat)) := by omega
    have hw1 : ¬ (0 ≤ worse ∧ worse < (fs.length : Nat)) := by omega
    have h01 : 0 ≤ (0 : Int) ∧ (0 : Int) < (fs.length : Nat) := ⟨Int.le_refl _, by have := List.length_pos_iff.mpr (hne (by decide)); omega⟩
    -- asks
    refine ⟨hT8, fun f0 c0 dV0 H9 e9 hT9 d9 hf0 hc0 => ⟨hT9, fun f1 c1 dV1 H10 e10 hT10 d10 hf1 hc1' => ⟨hT10, fun f2 c2 dV2 H11 e11 hT11 d11 hf2 hc2 => ⟨(show (3 : Nat) ≤ sizeLine by decide), fun l nl => ?_⟩⟩⟩⟩
    have u12 := same_upd (o := .lst [V.ref f0, V.ref f1, V.ref f2]) nl
    have e911 := e10.trans e11
    have o12 := LamX.ExtN.of u12
    have hX12 := book_ext4 hX8 ((e9.trans e911).trans o12)
    have hl12 : (upd H11 l (.lst [V.ref f0, V.ref f1, V.ref f2])) l = some (.lst [V.ref f0, V.ref f1, V.ref f2]) := upd_same
    have g0 := (e911.trans o12) _ _ hf0 lamO_ne
    have g1 := (e11.trans o12) _ _ hf1 lamO_ne
    have g2 := o12 _ _ hf2 lamO_ne
    have k0 := (e911.trans o12) _ _ hc0 LamX.codeO_ne
    have k1 := (e11.trans o12) _ _ hc1' LamX.codeO_ne
    have k2 := o12 _ _ hc2 LamX.codeO_ne
    have m0 := d9.ext (e911.trans o12)
    have m1 := d10.ext (e11.trans o12)
    have m2 := d11.ext o12
    generalize upd H11 l (.lst [V.ref f0, V.ref f1, V.ref f2]) = H12 at hX12 hl12 g0 g1 g2 k0 k1 k2 m0 m1 m2 ⊢
    clear u12 o12 e911 e9 e10 e11 d9 d10 d11 hf0 hf1 hf2 hc0 hc1' hc2 nl hX8 hT8 hT9 hT10 hT11
    obtain ⟨dxb, ab, bb, xb', hxx, _⟩ := id hX12
    -- found
    refine ⟨.ref l, rfl, l, rfl, ⟨_, SqL.of hl12⟩, fun D nD => ?_⟩
    refine lc_list (K := K) (a := l) (xs := [V.ref f0, V.ref f1, V.ref f2]) (fun j H' => Same H12 H' ∧ ∃ ts : List Addr, H' D = some (.lst (ts.map V.ref)) ∧ ts.length = j ∧ ∀ (n : Nat) (t : Addr), ts[n]? = some t → H' t = some (.tup [.str "NoFigure", .int (([bad, worse, bad] : List Int).getD n 0)])) ⟨same_upd nD, [], upd_same, rfl, fun n t h => (by simp at h)⟩ (fun j H' _ hP => SqL.of (hP.1 _ _ hl12)) (fun j y H' hy hP => ?_) (fun H13 hP => ?_)
    · obtain ⟨sm, ts, hD, htl, hts⟩ := hP
      have Xs := hX12.same sm
      have fin : ∀ (d2 : Addr) (H2 : Hp) (p2 : Addr), Same H' H2 → H2 p2 = none → ∃ acc, (upd H2 p2 (.tup [V.str "NoFigure", .int (([bad, worse, bad] : List Int).getD j 0)])) D = some (.lst acc) ∧ acc.length < sizeLine ∧ (Same H12 (upd (upd H2 p2 (.tup [V.str "NoFigure", .int (([bad, worse, bad] : List Int).getD j 0)])) D (.lst (acc ++ [.ref p2]))) ∧ ∃ ts : List Addr, (upd (upd H2 p2 (.tup [V.str "NoFigure", .int (([bad, worse, bad] : List Int).getD j 0)])) D (.lst (acc ++ [.ref p2]))) D = some (.lst (ts.map V.ref)) ∧ ts.length = j + 1 ∧ ∀ (n : Nat) (t : Addr), ts[n]? = some t → (upd (upd H2 p2 (.tup [V.str "NoFigure", .int (([bad, worse, bad] : List Int).getD j 0)])) D (.lst (acc ++ [.ref p2]))) t = some (.tup [.str "NoFigure", .int (([bad, worse, bad] : List Int).getD n 0)])) := fun _ H2 p2 s2 n2 => by
        have u2 := same_upd (o := .tup [V.str "NoFigure", .int (([bad, worse, bad] : List Int).getD j 0)]) n2
        have hD2 := u2 _ _ (s2 _ _ hD)
        have nD2 : D ≠ p2 := ne_of_none (s2 _ _ hD) n2
        refine ⟨_, hD2, ?_, Same.offUpd (sm.trans (s2.trans u2)) nD, ts ++ [p2], by rw [upd_same, List.map_append]; rfl, by rw [List.length_append, htl]; rfl, fun n t h => ?_⟩
        · rw [List.length_map, htl]
          have : j < 3 := (List.getElem?_eq_some_iff.mp hy).1
          exact small1000 (by omega)
        · by_cases hn : n < ts.length
          · rw [List.getElem?_append_left hn] at h
            have ht := hts n t h
            have ntD : t ≠ D := fun z => by rw [z, hD] at ht; cases ht
            rw [upd_ne ntD]
            exact u2 _ _ (s2 _ _ ht)
          · rw [List.getElem?_append_right (by omega)] at h
            have en : n - ts.length = 0 := by
              cases e0 : n - ts.length with
              | zero => rfl
              | succ m => rw [e0] at h; cases h
            rw [en] at h
            obtain rfl : p2 = t := Option.some.inj h
            have : n = j := by omega
            subst this
            rw [upd_ne nD2.symm, upd_same]
      have hx' := sm _ _ hxx
      have hj3 : j = 0 ∨ j = 1 ∨ j = 2 := by
        have : j < 3 := (List.getElem?_eq_some_iff.mp hy).1
        omega
      rcases hj3 with rfl | rfl | rfl
      · obtain rfl := Option.some.inj hy
        refine ⟨rfl, yesT ⟨0, f0, c0, dV0, by decide, rfl, sm _ _ k0, ?_⟩⟩
        refine ⟨sm _ _ g0, m0.ext (LamX.ExtN.of sm), .ref x, rfl, x, dxb, _, rfl, hx', rfl, .int bad, rfl, .int worse, rfl, x, cs, fs, bad, worse, rfl, Xs, hfl1, hpu, (fun i' j' e1 e2 h1 h2 => absurd ⟨by omega, by omega⟩ hb1), (fun _ dd H2 s2 hdd => ⟨24, [.int bad], dd, by decide, by rw [hCN], rfl, rfl, hdd, fun p2 n2 => fin dd H2 p2 s2 n2⟩), fun z => absurd z hb1⟩
      · obtain rfl := Option.some.inj hy
        refine ⟨rfl, yesT ⟨1, f1, c1, dV1, by decide, rfl, sm _ _ k1, ?_⟩⟩
        refine ⟨sm _ _ g1, m1.ext (LamX.ExtN.of sm), .ref x, rfl, x, dxb, _, rfl, hx', rfl, .int worse, rfl, x, cs, fs, 0, worse, rfl, Xs, hfl1, hpu, (fun i' j' e1 e2 h1 h2 => absurd ⟨by omega, by omega⟩ hw1), (fun z => absurd h01 z), fun _ _ dd H2 s2 hdd => ⟨24, [.int worse], dd, by decide, by rw [hCN], rfl, rfl, hdd, fun p2 n2 => fin dd H2 p2 s2 n2⟩⟩
      · obtain rfl := Option.some.inj hy
        refine ⟨rfl, yesT ⟨2, f2, c2, dV2, by decide, rfl, sm _ _ k2, ?_⟩⟩
        refine ⟨sm _ _ g2, m2.ext (LamX.ExtN.of sm), .ref x, rfl, x, dxb, _, rfl, hx', rfl, .int bad, rfl, x, cs, fs, bad, 0, rfl, Xs, hfl1, hpu, (fun i' j' e1 e2 h1 h2 => absurd ⟨by omega, by omega⟩ hb1), (fun _ dd H2 s2 hdd => ⟨24, [.int bad], dd, by decide, by rw [hCN], rfl, rfl, hdd, fun p2 n2 => fin dd H2 p2 s2 n2⟩), fun z => absurd z hb1⟩
    · obtain ⟨sm, ts, hD, htl, hts⟩ := hP
      match ts, htl with
      | [t0, t1, t2], _ =>
        have q0 := hts 0 t0 rfl
        have q1 := hts 1 t1 rfl
        have q2 := hts 2 t2 rfl
        refine ⟨.ref D, rfl, .int bad, rfl, (show (2 : Nat) ≤ sizeLine by decide), fun p0 n0 => ?_⟩
        have v0 := same_upd (o := .tup [V.str "NoFigure", V.int bad]) n0
        refine ⟨.int worse, rfl, (show (2 : Nat) ≤ sizeLine by decide), fun p1 n1 => ?_⟩
        have v1 := same_upd (o := .tup [V.str "NoFigure", V.int worse]) n1
        refine ⟨.int bad, rfl, (show (2 : Nat) ≤ sizeLine by decide), fun p2 n2 => ?_⟩
        have v2 := same_upd (o := .tup [V.str "NoFigure", V.int bad]) n2
        refine ⟨(show (3 : Nat) ≤ sizeLine by decide), fun l2 nl2 => ?_⟩
        have v3 := same_upd (o := .lst [V.ref p0, V.ref p1, V.ref p2]) nl2
        have v03 := (v0.trans v1).trans (v2.trans v3)
        refine ⟨_, _, rfl, lk_seq (n := 4) (.inl ⟨SqL.of (v03 _ _ hD), SqL.of upd_same⟩) rfl (show (3 : Nat) ≤ 1000 by decide) (fun i x' y' hx hy => ?_), fun H' _ => q _⟩
        match i, hx, hy with
        | 0, hx, hy =>
          obtain rfl := Option.some.inj hx
          obtain rfl := Option.some.inj hy
          exact lk_pair4 (z := "NoFigure") (SqT.of (v03 _ _ q0)) (SqT.of ((v1.trans (v2.trans v3)) _ _ upd_same)) (lk_int (n := 2) bad)
        | 1, hx, hy =>
          obtain rfl := Option.some.inj hx
          obtain rfl := Option.some.inj hy
          exact lk_pair4 (z := "NoFigure") (SqT.of (v03 _ _ q1)) (SqT.of ((v2.trans v3) _ _ upd_same)) (lk_int (n := 2) worse)
        | 2, hx, hy =>
          obtain rfl := Option.some.inj hx
          obtain rfl := Option.some.inj hy
          exact lk_pair4 (z := "NoFigure") (SqT.of (v03 _ _ q2)) (SqT.of (v3 _ _ upd_same)) (lk_int (n := 2) bad)
end
/-! ### the Hook over a written list of addresses -/
def lookL (as : List Addr) (fa : List He.Fa) (fn : List He.DefD) (tf : List He.Defn) (ex : PySem.W.Frag → Bool) (g : Addr → Option Obj) : He.AlX :=
  (He.obsT fa fn [] (He.frT g as), ex (He.frT g as) && He.tabsB g tf (He.frT g as))
theorem lookL_says {as : List Addr} {fa : List He.Fa} {fn : List He.DefD} {tf : List He.Defn} {ex : PySem.W.Frag → Bool} {w : World} {h : Heap} (e : lookL as fa fn tf ex h.get? = He.valX fn [] w) : He.SaysX fa fn [] tf ex w h (He.frT h.get? as) := by
  have a : _ = He.valT fn [] w := congrArg Prod.fst e
  obtain ⟨b, c⟩ := He.ba (show _ = true from congrArg Prod.snd e)
  exact { t := a, more := b, hd := fun p hp => (tabs_out c p hp).1, out := fun p hp => (tabs_out c p hp).2.1, empty := fun p hp => (tabs_out c p hp).2.2 }
def hookL (as : List Addr) (fa : List He.Fa) (fn : List He.DefD) (tf : List He.Defn) (ex : PySem.W.Frag → Bool) : PySem.W.Hook :=
  { α := He.AlX, obs := fun s => lookL as fa fn tf ex s.heap.get?, val := He.valX fn [], says := fun w h => ∃ K : PySem.W.Frag, K.In h ∧ He.SaysX fa fn [] tf ex w h K, of := fun w s e => ⟨_, He.frT_in, lookL_says e⟩,
    keeps := fun w h h' y k => by
      obtain ⟨K, i, c⟩ := y
      exact ⟨K, PySem.W.Frag.In.keeps i k, { t := c.t, more := c.more, hd := c.hd, out := c.out, empty := fun p hp => k _ _ (c.empty p hp) }⟩ }
theorem lookL_eq {as : List Addr} {fa : List He.Fa} {fn : List He.DefD} {tf : List He.Defn} {ex : PySem.W.Frag → Bool} (s : PySem.W.SharedT) : lookL as fa fn tf ex (HandSHeadRun.getT s) = (hookL as fa fn tf ex).obs s.abs := by
  rw [show HandSHeadRun.getT s = s.abs.heap.get? from funext (HandSHeadRun.getT_eq s)]
  rfl
/-- the default of Book's figures -/
def emptyT (K : PySem.W.Frag) : Addr := match K.lookup (He.ma K (He.ga K "Book") "__init__") with
  | some ⟨_, _, .func fd, _⟩ => (match fd.kwdefaults with
    | .ref D => (match PySem.W.nsIn K D "figures" with
      | some (some (.ref a)) => a
      | _ => 0)
    | _ => 0)
  | _ => 0
theorem exk_NoFigure {P : Program} {w : World} {K : PySem.W.Frag} {mg : Str → Option Value} {base : Heap} {fd fdb : FuncData} (L : LeafK K "NoFigure" "Missing" ["figure"]) (F : Fun K "__init__" "NoFigure.__init__" sI_NoFigure (He.ma K (He.ga K "NoFigure") "__init__") fd)
    (Fb : FunD K "__init__" "Missing.__init__" (defArgs sI_Missing) (defBody sI_Missing) (defScope sI_Missing) [.str "Missing"] [] (He.ma K (He.ga K "Missing") "__init__") fdb) (mX : mg "NoFigure" = some (.ref (He.ga K "NoFigure"))) (mb : mg "Missing" = some (.ref (He.ga K "Missing"))) {j : Nat} (hj : 2 ≤ j) :
    ExcK P w K mg base j "NoFigure" (He.ga K "NoFigure") 1 (fun ws => [("figure", ws.getD 0 .non), ("word", .str "NoFigure")]) := by
  obtain ⟨ds, vd, bb⟩ := Fb.binds1 (ps := ["self", "word"]) 2 1 (List.cons_ne_nil _ _) rfl (fun T kV doc pm an cdv ct us its l1 l2 => match us, its, l1, l2 with | [_, _], [_], _, _ => ⟨_, rfl, rfl⟩)
  have ed : ds = [] := List.eq_nil_of_length_eq_zero vd.length.symm
  subst ed
  have GB : FnOk P w K mg base CX0 1 _ _ ["self", "word"] (spBase K) := okI_Missing (k := 0) Fb
  have bX := F.binds (ps := ["self", "figure"]) fun _ _ _ _ _ _ us hl => match us, hl with | [_, _], _ => rfl
  have GX := okI_NoFigure (k := 1) F L.T (L.n "word" (List.mem_cons_self ..)) (L.n "figure" (List.mem_cons_of_mem _ (List.mem_cons_self ..))) L.B GB bb mb
  exact ⟨L.T, mX, _, _, _, L.i, L.t, GX.mono hj, bX⟩
/-! ### the head by facts; the end -/
def hFa : List He.Fa := rNms.map He.Fa.glo ++ (([.glo "check_colours", .glo "check_figures", .glo "is_figure", .glo "is_triple", .glo "check_meetings", .glo "copy_of_figure", .glo "pads_of", .glo "mask_of", .glo "bar", .glo "_law_bag", .glo "_law_pull", .glo "_law_of"] : List He.Fa) ++ ([.glo "_law_hues", .glo "_law_shape", .glo "_law_bars", .glo "_law_shapes", .glo "_law_far", .glo "_law_strange", .glo "_law_tried", .glo "_law_like", .glo "_law_pads", .glo "_law_meet", .glo "law", .glo "Missing"] : List He.Fa) ++ ([.glo "NoFigure", .glo "Book", .cls "Book", .noat "Book" "palette", .noat "Book" "shapes", .mkr "Book", .meth "Book" "__init__", .meth "Book" "shape", .meth "Book" "meet", .free "len", .free "list", .free "tuple"] : List He.Fa) ++ ([.free "range", .free "isinstance", .free "all", .free "any", .free "bool", .free "int", .free "str", .free "dict", .free "enumerate", .free "zip", .free "sum", .int "MOST_PADS" 6] : List He.Fa) ++ ([.int "MOST_COLOURS" 4, .int "MOST_FIGURES" 12, .int "MOST_DEPTH" 3] : List He.Fa))
def hFn : List He.DefD := ([dOf ("check_colours", none) "check_colours" "check_colours" sCCol [] [], dOf ("check_figures", none) "check_figures" "check_figures" sCFig [] [], dOf ("is_figure", none) "is_figure" "is_figure" sIsFig [] [], dOf ("is_triple", none) "is_triple" "is_triple" sIsTri [] [], dOf ("check_meetings", none) "check_meetings" "check_meetings" sCMeet [] [], dOf ("copy_of_figure", none) "copy_of_figure" "copy_of_figure" sCopyF [] [], dOf ("pads_of", none) "pads_of" "pads_of" sPadsOf [] [], dOf ("mask_of", none) "mask_of" "mask_of" sMask [] [], dOf ("bar", none) "bar" "bar" sBar [] [], dOf ("_law_bag", none) "_law_bag" "_law_bag" sBag [] [], dOf ("_law_pull", none) "_law_pull" "_law_pull" sPull [] [], dOf ("_law_of", none) "_law_of" "_law_of" sOf [] []] : List He.DefD) ++ ([dOf ("_law_hues", none) "_law_hues" "_law_hues" sHues [] [], dOf ("_law_shape", none) "_law_shape" "_law_shape" sShape [] [], dOf ("_law_bars", none) "_law_bars" "_law_bars" sBars [] [], dOf ("_law_shapes", none) "_law_shapes" "_law_shapes" sShapes [] [], dOf ("_law_far", none) "_law_far" "_law_far" sFar [] [], dOf ("_law_strange", none) "_law_strange" "_law_strange" sStr [] [], dOf ("_law_tried", none) "_law_tried" "_law_tried" sTried [] [], dOf ("_law_like", none) "_law_like" "_law_like" sLike [] [], dOf ("_law_pads", none) "_law_pads" "_law_pads" sLPads [] [], dOf ("_law_meet", none) "_law_meet" "_law_meet" sLMeet [] [], dOf ("law", none) "law" "law" sLaw [] [], dOf ("Missing", some "__init__") "__init__" "Missing.__init__" sI_Missing [.str "Missing"] []] : List He.DefD) ++ ([dOf ("NoFigure", some "__init__") "__init__" "NoFigure.__init__" sI_NoFigure [] [], dOf ("Book", some "__init__") "__init__" "Book.__init__" sInit [] [("figures", .adr emptyT)], dOf ("Book", some "shape") "shape" "Book.shape" sShpX [] [], dOf ("Book", some "meet") "meet" "Book.meet" sMeetX [] []] : List He.DefD)
def hEx (K : PySem.W.Frag) : Bool := refsB K && (leafB K "NoFigure" "Missing" "LookupError" "LookupError.__new__" ["figure"])
def hTf : List He.Defn := [("law", none)]
def hNames : List PySem.Str := (["_wall", "TearError", "BadColours", "BadFigure", "Meeting", "TooMany", "TooFar", "BadOrder", "OtherColours", "OtherBook", "BadRow", "BadNote"] : List PySem.Str) ++ (["BadBeneath", "Full", "NoEnd", "NotStanding", "NeverClear", "BadDeed", "BadNumber", "NoBeginning", "Barred", "BadHeights", "BadWeights", "NoMean"] : List PySem.Str) ++ (["BadText", "Missing", "NoPad", "NoFigure", "NoNote", "Stuck", "NothingBack", "NothingAgain", "MOST_PADS", "MOST_COLOURS", "MOST_FIGURES", "MOST_DEPTH"] : List PySem.Str) ++ (["Book", "check_colours", "check_figures", "is_figure", "is_triple", "check_meetings", "copy_of_figure", "pads_of", "mask_of", "bar", "colours_text", "figure_text"] : List PySem.Str) ++ (["triple_text", "_law_bag", "_law_pull", "_law_of", "_law_hues", "_law_shape", "_law_bars", "_law_shapes", "_law_like", "_law_pads", "_law_meet", "_law_far"] : List PySem.Str) ++ (["_law_strange", "_law_tried"] : List PySem.Str)
abbrev hR : PySem.W.OpenRow := PySem.W.OpenLaw.row PySem.Challenge.rw_tearboard_k04_figures_that_meet
def hAs : List Addr := ([2, 3, 6, 4, 21, 39, 59, 78, 97, 116, 135, 154, 173, 192, 211, 230, 249, 268, 287, 306, 325, 344, 363, 382, 401, 420, 439, 458, 477, 497, 517, 536, 555, 575, 595, 614, 708, 719, 726, 731, 738, 743, 748, 753, 758, 763, 768, 773, 780, 787, 794, 801, 806, 813, 818, 823, 828, 833, 838, 845] : List Addr) ++ ([852, 859, 864, 0, 20, 38, 58, 77, 96, 115, 134, 153, 172, 191, 210, 229, 248, 267, 286, 305, 324, 343, 362, 381, 400, 419, 438, 457, 476, 496, 516, 535, 554, 574, 594, 613, 707, 718, 725, 730, 737, 742, 747, 752, 757, 762, 767, 772, 779, 786, 793, 800, 805, 812, 817, 822, 827, 832, 837, 844] : List Addr) ++ ([851, 858, 863, 15, 16, 17, 18, 19, 36, 37, 40, 56, 57, 75, 76, 94, 95, 113, 114, 132, 133, 151, 152, 170, 171, 189, 190, 208, 209, 227, 228, 246, 247, 265, 266, 284, 285, 303, 304, 322, 323, 341, 342, 360, 361, 379, 380, 398, 399, 417, 418, 436, 437, 455, 456, 474, 475, 494, 495, 498] : List Addr) ++ ([514, 515, 533, 534, 552, 553, 572, 573, 576, 592, 593, 611, 612, 630, 637, 644, 651, 658, 665, 672, 679, 686, 693, 698, 705, 706, 709, 710, 713, 714, 715, 716, 717, 720, 721, 722, 723, 724, 727, 728, 729, 732, 733, 734, 735, 736, 739, 740, 741, 744, 745, 746, 749, 750, 751, 754, 755, 756, 759, 760] : List Addr) ++ ([761, 764, 765, 766, 769, 770, 771, 774, 775, 776, 777, 778, 781, 782, 783, 784, 785, 788, 789, 790, 791, 792, 795, 796, 797, 798, 799, 802, 803, 804, 807, 808, 809, 810, 811, 814, 815, 816, 819, 820, 821, 824, 825, 826, 829, 830, 831, 834, 835, 836, 839, 840, 841, 842, 843, 846, 847, 848, 849, 850] : List Addr) ++ ([853, 854, 855, 856, 857, 860, 861, 862, 35, 29, 55, 74, 93, 112, 131, 150, 169, 188, 207, 226, 245, 264, 283, 302, 321, 340, 359, 378, 397, 416, 435, 454, 473, 493, 487, 513, 532, 551, 571, 565, 591, 610, 629, 625, 636, 643, 650, 657, 664, 671, 678, 685, 692, 697, 704, 30, 31, 32, 33, 34] : List Addr) ++ ([50, 51, 52, 53, 54, 69, 70, 71, 72, 73, 88, 89, 90, 91, 92, 107, 108, 109, 110, 111, 126, 127, 128, 129, 130, 145, 146, 147, 148, 149, 164, 165, 166, 167, 168, 183, 184, 185, 186, 187, 202, 203, 204, 205, 206, 221, 222, 223, 224, 225, 240, 241, 242, 243, 244, 259, 260, 261, 262, 263] : List Addr) ++ ([278, 279, 280, 281, 282, 297, 298, 299, 300, 301, 316, 317, 318, 319, 320, 335, 336, 337, 338, 339, 354, 355, 356, 357, 358, 373, 374, 375, 376, 377, 392, 393, 394, 395, 396, 411, 412, 413, 414, 415, 430, 431, 432, 433, 434, 449, 450, 451, 452, 453, 468, 469, 470, 471, 472, 488, 489, 490, 491, 492] : List Addr) ++ ([508, 509, 510, 511, 512, 527, 528, 529, 530, 531, 546, 547, 548, 549, 550, 566, 567, 568, 569, 570, 586, 587, 588, 589, 590, 605, 606, 607, 608, 609, 626, 627, 628, 624, 631, 632, 633, 634, 635, 638, 639, 640, 641, 642, 645, 646, 647, 648, 649, 652, 653, 654, 655, 656, 659, 660, 661, 662, 663, 666] : List Addr) ++ ([667, 668, 669, 670, 673, 674, 675, 676, 677, 680, 681, 682, 683, 684, 687, 688, 689, 690, 691, 694, 695, 696, 699, 700, 701, 702, 703] : List Addr)
abbrev hK : PySem.W.Hook := hookL hAs hFa hFn hTf hEx
def hOb (s : PySem.W.SharedT) : He.AlX := lookL hAs hFa hFn hTf hEx (HandSHeadRun.getT s)
theorem hOb_eq (s : PySem.W.SharedT) : hOb s = hK.obs s.abs := lookL_eq s
theorem hFacts {l : PySem.W.OpenLaw} {w : World} {K : PySem.W.Frag} {h : Heap} {mg : Str → Option Value} {fa0 : Addr} (X : K.In h) (G : h.Ns mainGlobals mg) (hfa : mg "law" = some (.ref fa0)) (c : He.SaysX hFa hFn [] hTf hEx w h K) : LamX.LawAtS l w K CX0 13 63 "_law_script" mg fa0 h := by
  have cd := c.t.d
  have mo0 := c.more
  obtain ⟨x0, mo1⟩ := He.ba mo0
  have x1 := mo1
  have RT := refsB_ok X G cd x0
  obtain ⟨fdcc, Fcc0⟩ := cd.def_ 0 (d := dOf ("check_colours", none) "check_colours" "check_colours" sCCol [] []) rfl
  have Fcc : Fun K "check_colours" "check_colours" sCCol (He.ga K "check_colours") fdcc := funOf Fcc0
  have gcc : mg "check_colours" = some (.ref (He.ga K "check_colours")) := He.glo_ok X G (cd.fact 28 (f := .glo "check_colours") rfl)
  have bcc := Fcc.binds (ps := ["colours"]) fun _ _ _ _ _ _ us hl => match us, hl with | [_], _ => rfl
  obtain ⟨fdcf, Fcf0⟩ := cd.def_ 1 (d := dOf ("check_figures", none) "check_figures" "check_figures" sCFig [] []) rfl
  have Fcf : Fun K "check_figures" "check_figures" sCFig (He.ga K "check_figures") fdcf := funOf Fcf0
  have gcf : mg "check_figures" = some (.ref (He.ga K "check_figures")) := He.glo_ok X G (cd.fact 29 (f := .glo "check_figures") rfl)
  have bcf := Fcf.binds (ps := ["colours", "figures"]) fun _ _ _ _ _ _ us hl => match us, hl with | [_, _], _ => rfl
  obtain ⟨fdfi, Ffi0⟩ := cd.def_ 2 (d := dOf ("is_figure", none) "is_figure" "is_figure" sIsFig [] []) rfl
  have Ffi : Fun K "is_figure" "is_figure" sIsFig (He.ga K "is_figure") fdfi := funOf Ffi0
  have gfi : mg "is_figure" = some (.ref (He.ga K "is_figure")) := He.glo_ok X G (cd.fact 30 (f := .glo "is_figure") rfl)
  have bfi := Ffi.binds (ps := ["colours", "figure"]) fun _ _ _ _ _ _ us hl => match us, hl with | [_, _], _ => rfl
  obtain ⟨fdti, Fti0⟩ := cd.def_ 3 (d := dOf ("is_triple", none) "is_triple" "is_triple" sIsTri [] []) rfl
  have Fti : Fun K "is_triple" "is_triple" sIsTri (He.ga K "is_triple") fdti := funOf Fti0
  have gti : mg "is_triple" = some (.ref (He.ga K "is_triple")) := He.glo_ok X G (cd.fact 31 (f := .glo "is_triple") rfl)
  have bti := Fti.binds (ps := ["colours", "triple"]) fun _ _ _ _ _ _ us hl => match us, hl with | [_, _], _ => rfl
  obtain ⟨fdcm, Fcm0⟩ := cd.def_ 4 (d := dOf ("check_meetings", none) "check_meetings" "check_meetings" sCMeet [] []) rfl
  have Fcm : Fun K "check_meetings" "check_meetings" sCMeet (He.ga K "check_meetings") fdcm := funOf Fcm0
  have gcm : mg "check_meetings" = some (.ref (He.ga K "check_meetings")) := He.glo_ok X G (cd.fact 32 (f := .glo "check_meetings") rfl)
  have bcm := Fcm.binds (ps := ["figures"]) fun _ _ _ _ _ _ us hl => match us, hl with | [_], _ => rfl
  obtain ⟨fdcy, Fcy0⟩ := cd.def_ 5 (d := dOf ("copy_of_figure", none) "copy_of_figure" "copy_of_figure" sCopyF [] []) rfl
  have Fcy : Fun K "copy_of_figure" "copy_of_figure" sCopyF (He.ga K "copy_of_figure") fdcy := funOf Fcy0
  have gcy : mg "copy_of_figure" = some (.ref (He.ga K "copy_of_figure")) := He.glo_ok X G (cd.fact 33 (f := .glo "copy_of_figure") rfl)
  have bcy := Fcy.binds (ps := ["figure"]) fun _ _ _ _ _ _ us hl => match us, hl with | [_], _ => rfl
  obtain ⟨fdpo_, Fpo_0⟩ := cd.def_ 6 (d := dOf ("pads_of", none) "pads_of" "pads_of" sPadsOf [] []) rfl
  have Fpo_ : Fun K "pads_of" "pads_of" sPadsOf (He.ga K "pads_of") fdpo_ := funOf Fpo_0
  have gpo_ : mg "pads_of" = some (.ref (He.ga K "pads_of")) := He.glo_ok X G (cd.fact 34 (f := .glo "pads_of") rfl)
  have bpo_ := Fpo_.binds (ps := ["figure"]) fun _ _ _ _ _ _ us hl => match us, hl with | [_], _ => rfl
  obtain ⟨fdms, Fms0⟩ := cd.def_ 7 (d := dOf ("mask_of", none) "mask_of" "mask_of" sMask [] []) rfl
  have Fms : Fun K "mask_of" "mask_of" sMask (He.ga K "mask_of") fdms := funOf Fms0
  have gms : mg "mask_of" = some (.ref (He.ga K "mask_of")) := He.glo_ok X G (cd.fact 35 (f := .glo "mask_of") rfl)
  have bms := Fms.binds (ps := ["figure"]) fun _ _ _ _ _ _ us hl => match us, hl with | [_], _ => rfl
  obtain ⟨fdba, Fba0⟩ := cd.def_ 8 (d := dOf ("bar", none) "bar" "bar" sBar [] []) rfl
  have Fba : Fun K "bar" "bar" sBar (He.ga K "bar") fdba := funOf Fba0
  have gba : mg "bar" = some (.ref (He.ga K "bar")) := He.glo_ok X G (cd.fact 36 (f := .glo "bar") rfl)
  have bba := Fba.binds (ps := ["one", "other"]) fun _ _ _ _ _ _ us hl => match us, hl with | [_, _], _ => rfl
  obtain ⟨fdB, FB0⟩ := cd.def_ 9 (d := dOf ("_law_bag", none) "_law_bag" "_law_bag" sBag [] []) rfl
  have FB : Fun K "_law_bag" "_law_bag" sBag (He.ga K "_law_bag") fdB := funOf FB0
  have gB : mg "_law_bag" = some (.ref (He.ga K "_law_bag")) := He.glo_ok X G (cd.fact 37 (f := .glo "_law_bag") rfl)
  have bB := FB.binds (ps := ["_law_script"]) fun _ _ _ _ _ _ us hl => match us, hl with | [_], _ => rfl
  obtain ⟨fdP, FP0⟩ := cd.def_ 10 (d := dOf ("_law_pull", none) "_law_pull" "_law_pull" sPull [] []) rfl
  have FP : Fun K "_law_pull" "_law_pull" sPull (He.ga K "_law_pull") fdP := funOf FP0
  have gP : mg "_law_pull" = some (.ref (He.ga K "_law_pull")) := He.glo_ok X G (cd.fact 38 (f := .glo "_law_pull") rfl)
  have bP := FP.binds (ps := ["_law_bag_here", "_law_size"]) fun _ _ _ _ _ _ us hl => match us, hl with | [_, _], _ => rfl
  obtain ⟨fdO, FO0⟩ := cd.def_ 11 (d := dOf ("_law_of", none) "_law_of" "_law_of" sOf [] []) rfl
  have FO : Fun K "_law_of" "_law_of" sOf (He.ga K "_law_of") fdO := funOf FO0
  have gO : mg "_law_of" = some (.ref (He.ga K "_law_of")) := He.glo_ok X G (cd.fact 39 (f := .glo "_law_of") rfl)
  have bO := FO.binds (ps := ["_law_bag_here", "_law_things"]) fun _ _ _ _ _ _ us hl => match us, hl with | [_, _], _ => rfl
  obtain ⟨fdHu, FHu0⟩ := cd.def_ 12 (d := dOf ("_law_hues", none) "_law_hues" "_law_hues" sHues [] []) rfl
  have FHu : Fun K "_law_hues" "_law_hues" sHues (He.ga K "_law_hues") fdHu := funOf FHu0
  have gHu : mg "_law_hues" = some (.ref (He.ga K "_law_hues")) := He.glo_ok X G (cd.fact 40 (f := .glo "_law_hues") rfl)
  have bHu := FHu.binds (ps := ["_law_bag_here", "_law_most"]) fun _ _ _ _ _ _ us hl => match us, hl with | [_, _], _ => rfl
  obtain ⟨fdSp, FSp0⟩ := cd.def_ 13 (d := dOf ("_law_shape", none) "_law_shape" "_law_shape" sShape [] []) rfl
  have FSp : Fun K "_law_shape" "_law_shape" sShape (He.ga K "_law_shape") fdSp := funOf FSp0
  have gSp : mg "_law_shape" = some (.ref (He.ga K "_law_shape")) := He.glo_ok X G (cd.fact 41 (f := .glo "_law_shape") rfl)
  have bSp := FSp.binds (ps := ["_law_bag_here", "_law_colours"]) fun _ _ _ _ _ _ us hl => match us, hl with | [_, _], _ => rfl
  obtain ⟨fdBa, FBa0⟩ := cd.def_ 14 (d := dOf ("_law_bars", none) "_law_bars" "_law_bars" sBars [] []) rfl
  have FBa : Fun K "_law_bars" "_law_bars" sBars (He.ga K "_law_bars") fdBa := funOf FBa0
  have gBa : mg "_law_bars" = some (.ref (He.ga K "_law_bars")) := He.glo_ok X G (cd.fact 42 (f := .glo "_law_bars") rfl)
  have bBa := FBa.binds (ps := ["_law_one", "_law_other"]) fun _ _ _ _ _ _ us hl => match us, hl with | [_, _], _ => rfl
  obtain ⟨fdSs, FSs0⟩ := cd.def_ 15 (d := dOf ("_law_shapes", none) "_law_shapes" "_law_shapes" sShapes [] []) rfl
  have FSs : Fun K "_law_shapes" "_law_shapes" sShapes (He.ga K "_law_shapes") fdSs := funOf FSs0
  have gSs : mg "_law_shapes" = some (.ref (He.ga K "_law_shapes")) := He.glo_ok X G (cd.fact 43 (f := .glo "_law_shapes") rfl)
  have bSs := FSs.binds (ps := ["_law_bag_here", "_law_colours", "_law_most"]) fun _ _ _ _ _ _ us hl => match us, hl with | [_, _, _], _ => rfl
  obtain ⟨fdF, FF0⟩ := cd.def_ 16 (d := dOf ("_law_far", none) "_law_far" "_law_far" sFar [] []) rfl
  have FF : Fun K "_law_far" "_law_far" sFar (He.ga K "_law_far") fdF := funOf FF0
  have gF : mg "_law_far" = some (.ref (He.ga K "_law_far")) := He.glo_ok X G (cd.fact 44 (f := .glo "_law_far") rfl)
  have bF := FF.binds (ps := ["_law_bag_here"]) fun _ _ _ _ _ _ us hl => match us, hl with | [_], _ => rfl
  obtain ⟨fdS, FS0⟩ := cd.def_ 17 (d := dOf ("_law_strange", none) "_law_strange" "_law_strange" sStr [] []) rfl
  have FS : Fun K "_law_strange" "_law_strange" sStr (He.ga K "_law_strange") fdS := funOf FS0
  have gS : mg "_law_strange" = some (.ref (He.ga K "_law_strange")) := He.glo_ok X G (cd.fact 45 (f := .glo "_law_strange") rfl)
  have bS := FS.binds (ps := ["_law_bag_here", "_law_many"]) fun _ _ _ _ _ _ us hl => match us, hl with | [_, _], _ => rfl
  obtain ⟨fdT, FT0⟩ := cd.def_ 18 (d := dOf ("_law_tried", none) "_law_tried" "_law_tried" sTried [] []) rfl
  have FT : Fun K "_law_tried" "_law_tried" sTried (He.ga K "_law_tried") fdT := funOf FT0
  have gT : mg "_law_tried" = some (.ref (He.ga K "_law_tried")) := He.glo_ok X G (cd.fact 46 (f := .glo "_law_tried") rfl)
  have bT := FT.binds (ps := ["_law_act"]) fun _ _ _ _ _ _ us hl => match us, hl with | [_], _ => rfl
  obtain ⟨fdK, FK0⟩ := cd.def_ 19 (d := dOf ("_law_like", none) "_law_like" "_law_like" sLike [] []) rfl
  have FK : Fun K "_law_like" "_law_like" sLike (He.ga K "_law_like") fdK := funOf FK0
  have gK : mg "_law_like" = some (.ref (He.ga K "_law_like")) := He.glo_ok X G (cd.fact 47 (f := .glo "_law_like") rfl)
  have bK := FK.binds (ps := ["_law_one", "_law_due"]) fun _ _ _ _ _ _ us hl => match us, hl with | [_, _], _ => rfl
  obtain ⟨fdPd, FPd0⟩ := cd.def_ 20 (d := dOf ("_law_pads", none) "_law_pads" "_law_pads" sLPads [] []) rfl
  have FPd : Fun K "_law_pads" "_law_pads" sLPads (He.ga K "_law_pads") fdPd := funOf FPd0
  have gPd : mg "_law_pads" = some (.ref (He.ga K "_law_pads")) := He.glo_ok X G (cd.fact 48 (f := .glo "_law_pads") rfl)
  have bPd := FPd.binds (ps := ["_law_shape_here"]) fun _ _ _ _ _ _ us hl => match us, hl with | [_], _ => rfl
  obtain ⟨fdMe, FMe0⟩ := cd.def_ 21 (d := dOf ("_law_meet", none) "_law_meet" "_law_meet" sLMeet [] []) rfl
  have FMe : Fun K "_law_meet" "_law_meet" sLMeet (He.ga K "_law_meet") fdMe := funOf FMe0
  have gMe : mg "_law_meet" = some (.ref (He.ga K "_law_meet")) := He.glo_ok X G (cd.fact 49 (f := .glo "_law_meet") rfl)
  have bMe := FMe.binds (ps := ["_law_one", "_law_other"]) fun _ _ _ _ _ _ us hl => match us, hl with | [_, _], _ => rfl
  obtain ⟨fdW, FW0⟩ := cd.def_ 22 (d := dOf ("law", none) "law" "law" sLaw [] []) rfl
  have FW : Fun K "law" "law" sLaw (He.ga K "law") fdW := funOf FW0
  have gW : mg "law" = some (.ref (He.ga K "law")) := He.glo_ok X G (cd.fact 50 (f := .glo "law") rfl)
  obtain ⟨fdb_Missing, Fb_Missing⟩ := cd.def_ 23 (d := dOf ("Missing", some "__init__") "__init__" "Missing.__init__" sI_Missing [.str "Missing"] []) rfl
  have mb_Missing : mg "Missing" = some (.ref (He.ga K "Missing")) := He.glo_ok X G (cd.fact 51 (f := .glo "Missing") rfl)
  obtain ⟨fdx_NoFigure, Fx_NoFigure⟩ := cd.def_ 24 (d := dOf ("NoFigure", some "__init__") "__init__" "NoFigure.__init__" sI_NoFigure [] []) rfl
  have mx_NoFigure : mg "NoFigure" = some (.ref (He.ga K "NoFigure")) := He.glo_ok X G (cd.fact 52 (f := .glo "NoFigure") rfl)
  have R_NoFigure : ∀ (base : Heap) (j : Nat), 2 ≤ j → ExcK l.prog w K mg base j "NoFigure" (He.ga K "NoFigure") 1 (fun ws => [("figure", ws.getD 0 .non), ("word", .str "NoFigure")]) := fun base j hj => exk_NoFigure (leafL x1) (funOf Fx_NoFigure) Fb_Missing mx_NoFigure mb_Missing hj
  have g_Bk : mg "Book" = some (.ref (He.ga K "Book")) := He.glo_ok X G (cd.fact 53 (f := .glo "Book") rfl)
  have cl_Bk : Cls K (He.ga K "Book") := He.cls_ok (cd.fact 54 (f := .cls "Book") rfl)
  have nBk_palette : NoAttr K (He.ga K "Book") "palette" := He.noat_ok (cd.fact 55 (f := .noat "Book" "palette") rfl)
  have nBk_shapes : NoAttr K (He.ga K "Book") "shapes" := He.noat_ok (cd.fact 56 (f := .noat "Book" "shapes") rfl)
  have mk_Bk : Mk K (He.ga K "Book") (He.ma K (He.ga K "Book") "__init__") := He.mkr_ok (cd.fact 57 (f := .mkr "Book") rfl)
  obtain ⟨fdIn, FIn0⟩ := cd.def_ 25 (d := dOf ("Book", some "__init__") "__init__" "Book.__init__" sInit [] [("figures", .adr emptyT)]) rfl
  have mIn : Meth K (He.ga K "Book") "__init__" (He.ma K (He.ga K "Book") "__init__") := He.meth_ok (cd.fact 58 (f := .meth "Book" "__init__") rfl)
  obtain ⟨fdbSh, FbSh0⟩ := cd.def_ 26 (d := dOf ("Book", some "shape") "shape" "Book.shape" sShpX [] []) rfl
  have FbSh : Fun K "shape" "Book.shape" sShpX (He.ma K (He.ga K "Book") "shape") fdbSh := funOf FbSh0
  have bbSh := FbSh.binds (ps := ["self", "at"]) fun _ _ _ _ _ _ us hl => match us, hl with | [_, _], _ => rfl
  have mbSh : Meth K (He.ga K "Book") "shape" (He.ma K (He.ga K "Book") "shape") := He.meth_ok (cd.fact 59 (f := .meth "Book" "shape") rfl)
  obtain ⟨fdbMt, FbMt0⟩ := cd.def_ 27 (d := dOf ("Book", some "meet") "meet" "Book.meet" sMeetX [] []) rfl
  have FbMt : Fun K "meet" "Book.meet" sMeetX (He.ma K (He.ga K "Book") "meet") fdbMt := funOf FbMt0
  have bbMt := FbMt.binds (ps := ["self", "one", "other"]) fun _ _ _ _ _ _ us hl => match us, hl with | [_, _, _], _ => rfl
  have mbMt : Meth K (He.ga K "Book") "meet" (He.ma K (He.ga K "Book") "meet") := He.meth_ok (cd.fact 60 (f := .meth "Book" "meet") rfl)
  have m_len : mg "len" = none := He.free_ok X G (cd.fact 61 (f := .free "len") rfl)
  have m_list : mg "list" = none := He.free_ok X G (cd.fact 62 (f := .free "list") rfl)
  have m_tuple : mg "tuple" = none := He.free_ok X G (cd.fact 63 (f := .free "tuple") rfl)
  have m_range : mg "range" = none := He.free_ok X G (cd.fact 64 (f := .free "range") rfl)
  have m_isinstance : mg "isinstance" = none := He.free_ok X G (cd.fact 65 (f := .free "isinstance") rfl)
  have m_all : mg "all" = none := He.free_ok X G (cd.fact 66 (f := .free "all") rfl)
  have m_any : mg "any" = none := He.free_ok X G (cd.fact 67 (f := .free "any") rfl)
  have m_bool : mg "bool" = none := He.free_ok X G (cd.fact 68 (f := .free "bool") rfl)
  have m_int : mg "int" = none := He.free_ok X G (cd.fact 69 (f := .free "int") rfl)
  have m_str : mg "str" = none := He.free_ok X G (cd.fact 70 (f := .free "str") rfl)
  have m_dict : mg "dict" = none := He.free_ok X G (cd.fact 71 (f := .free "dict") rfl)
  have m_enumerate : mg "enumerate" = none := He.free_ok X G (cd.fact 72 (f := .free "enumerate") rfl)
  have m_zip : mg "zip" = none := He.free_ok X G (cd.fact 73 (f := .free "zip") rfl)
  have m_sum : mg "sum" = none := He.free_ok X G (cd.fact 74 (f := .free "sum") rfl)
  obtain ⟨tk1, w_1⟩ := He.int_ok X G (cd.fact 75 (f := .int "MOST_PADS" 6) rfl)
  obtain ⟨tk2, w_2⟩ := He.int_ok X G (cd.fact 76 (f := .int "MOST_COLOURS" 4) rfl)
  obtain ⟨tk3, w_3⟩ := He.int_ok X G (cd.fact 77 (f := .int "MOST_FIGURES" 12) rfl)
  obtain ⟨tk4, w_4⟩ := He.int_ok X G (cd.fact 78 (f := .int "MOST_DEPTH" 3) rfl)
  have e := hfa.symm.trans gW
  cases e
  obtain ⟨ocW, odW, kVW, dcW, pmW, anW, cdW, ctW, slW, eW, lW, cW⟩ := FW.ex
  subst eW
  obtain ⟨cLw, rfl⟩ := He.codeIn_ref cW
  have eC0 : He.codeOf K (("law", none) : He.Defn) = cLw := He.codeOf_eq (p := ("law", none)) lW rfl
  have hm0 : (("law", none) : He.Defn) ∈ hTf := List.mem_singleton.mpr rfl
  have hd0 := c.hd _ hm0
  have ho0 := c.out _ hm0
  have he0 := c.empty _ hm0
  have e10 : (He.cT K (("law", none) : He.Defn)).1 = cLw := eC0
  generalize hp0 : (He.cT K (("law", none) : He.Defn)).2 = pLw at hd0 ho0 he0
  rw [e10] at hd0
  refine ⟨PySem.W.fnOf "law" "law" (defArgs sLaw) (defBody sLaw) (defScope sLaw) .none kVW dcW pmW anW (.ref cLw) ctW, [(cLw, pLw)], spLaw K pLw, fun p hp => ?_, fun p hp => ?_, fun p hp => ?_, fun s u => .of_eq rfl, fun H a ns h1 h2 h3 h4 => ?_, fun base hK hN hTB => ?_⟩
  · rw [List.mem_singleton.mp hp]
    exact he0
  · rw [List.mem_singleton.mp hp]
    exact ho0
  · rw [List.mem_singleton.mp hp]
    exact PySem.W.codeHd_of_K X hd0
  · exact ⟨a, ns, rfl, h4, h1, h3 (cLw, pLw) (List.mem_singleton.mpr rfl), fun _ => rfl⟩
  have tb : LamX.TabB base mg cLw pLw := hTB (cLw, pLw) (List.mem_singleton.mpr rfl)
  have TB : BkTxt K mg (He.ga K "Book") := ⟨cl_Bk, nBk_palette, nBk_shapes, g_Bk⟩
  have M : LkG mg := ⟨m_isinstance, m_tuple, m_list, m_len, m_all, m_range, m_bool, m_int, m_str⟩
  obtain ⟨mvI, kbI⟩ := FIn0.kbinds0 (ps := ["self", "colours", "figures"]) 2 ["figures"] [] (fun us mv ws => us ++ ws) (List.cons_ne_nil _ _) (fun q hq => by cases hq) (fun r1 r2 r3 => r1.append r3) (fun D doc pm an cdv ct us mv ws l1 l2 l3 => match us, mv, ws, l1, l2, l3 with | [_, _], [], [_], _, _, _ => rfl)
  have Gms : FnOk l.prog w K mg base CX0 2 _ _ ["figure"] (spMask K) := ok_mask (k := 1) Fms m_sum
  have Gba : FnOk l.prog w K mg base CX0 2 _ _ ["one", "other"] (spBar K) := ok_bar (k := 1) Fba m_any
  have Gfi : FnOk l.prog w K mg base CX0 2 _ _ ["colours", "figure"] (spIsFig K) := ok_isfig (k := 0) Ffi m_len m_all m_zip w_4 Fti bti gti Fpo_ bpo_ gpo_
  have Gcc : FnOk l.prog w K mg base CX0 3 _ _ ["colours"] (spCCol K) := ok_ccol (k := 2) Fcc m_len m_enumerate w_1 w_2
  have Gcy : FnOk l.prog w K mg base CX0 3 _ _ ["figure"] (spCopyF K) := ok_copyf (k := 2) Fcy m_tuple
  have GIn : FnOk l.prog w K mg base CX0 4 _ _ ["self", "colours", "figures"] (spInit K (He.ga K "Book")) := ok_init (k := 3) FIn0 TB m_len m_tuple w_3 Fcc bcc gcc Gcc Fcf bcf gcf (ok_cfig Fcf m_enumerate Ffi bfi gfi Gfi) Fcm bcm gcm (ok_cmeet Fcm m_enumerate m_range m_len Fms bms gms Gms Fba bba gba Gba) Fcy bcy gcy Gcy
  have Gbs : FnOk l.prog w K mg base (L2.CX l.prog w) 5 _ _ ["self", "at"] (spShpX K (He.ga K "Book") (He.ga K "NoFigure")) := ok_shpX (k := 3) FbSh TB m_len (R_NoFigure base 3 (by decide))
  have Gbm : FnOk l.prog w K mg base (L2.CX l.prog w) 6 _ _ ["self", "one", "other"] (spMeetX K (He.ga K "Book") (He.ga K "NoFigure")) := ok_meetX (k := 4) FbMt TB bbSh mbSh Gbs Fms bms gms (Gms.mono (by decide))
  have GP (k : Nat) : FnOk l.prog w K mg base CX0 (k + 1) _ _ ["_law_bag_here", "_law_size"] spPull := ok_pull (k := k) FP m_len
  have GO (k : Nat) : FnOk l.prog w K mg base CX0 (k + 2) _ _ ["_law_bag_here", "_law_things"] spOf := ok_of (k := k) FO m_len FP bP gP
  have GHu : FnOk l.prog w K mg base CX0 3 _ _ ["_law_bag_here", "_law_most"] spHues := ok_hues (k := 2) FHu m_range FP bP gP (GP 1) FO bO gO (GO 0)
  have GSp : FnOk l.prog w K mg base CX0 3 _ _ ["_law_bag_here", "_law_colours"] (spShape K) := ok_shape (k := 2) FSp m_range m_len m_tuple FP bP gP (GP 1) FO bO gO (GO 0)
  have GBa : FnOk l.prog w K mg base CX0 3 _ _ ["_law_one", "_law_other"] (spBars K) := ok_bars (k := 2) FBa m_dict m_any
  have GSs : FnOk l.prog w K mg base CX0 4 _ _ ["_law_bag_here", "_law_colours", "_law_most"] (spShapes K) := ok_shapes (k := 3) FSs m_range m_all FSp bSp gSp GSp FBa bBa gBa GBa
  have GF (k : Nat) : FnOk l.prog w K mg base CX0 (k + 2) _ _ ["_law_bag_here"] spFar := ok_far (k := k + 1) FF FP bP gP (GP k)
  have GS : FnOk l.prog w K mg base CX0 3 _ _ ["_law_bag_here", "_law_many"] spStr := ok_str (k := 2) FS FO bO gO (GO 0) FF bF gF (GF 0)
  have GPd (k : Nat) : FnOk l.prog w K mg base CX0 (k + 1) _ _ ["_law_shape_here"] (spPads K) := ok_lpads (k := k) FPd
  have GMe : FnOk l.prog w K mg base CX0 2 _ _ ["_law_one", "_law_other"] (spLMeet K) := ok_lmeet (k := 1) FMe m_any FPd bPd gPd (GPd 0)
  have GK : FnOk l.prog w K mg base CX0 5 _ _ ["_law_one", "_law_due"] (spLike K 5) := ok_like FK bK gK M 5
  exact ok_law04 (cm := fun i => (rNms.map (He.ga K)).getD i 0) lW cW tb rfl TB FB bB gB (ok_bag (k := 11) FB m_len m_list) FHu bHu gHu (GHu.mono (by decide)) FSs bSs gSs (GSs.mono (by decide)) mk_Bk kbI (GIn.mono (by decide)) bbMt mbMt (Gbm.mono (by decide)) ((meetC Gbm).mono (by decide)) FMe bMe gMe (GMe.mono (by decide)) FS bS gS (GS.mono (by decide)) FT bT gT FK bK gK GK RT m_range m_len
theorem hRunA (w : World) (os : OsState) : (HandSHeadRun.endF (HandSHeadRun.stepQ (HandSHeadRun.denQ HandSHeadRun.tabQ) hR.prog w) 20000 hR.prog w os).map (fun s => HandSHeadRun.looksF hR.prog (PySem.W.boot_heap w.params) s.abs) = some true := by
  kernel_rfl
theorem hRunB (w : World) (os : OsState) : (HandSHeadRun.endF (HandSHeadRun.stepQ (HandSHeadRun.denQ HandSHeadRun.tabQ) hR.prog w) 20000 hR.prog w os).map (fun s => HandSHeadRun.seenQ (PySem.W.view hR.prog [65]) hNames (importedModules hR.prog.main.body) (fun s => PySem.W.xlAt (PySem.W.view hR.prog [65]) [] s && PySem.W.recOk hR.toRowW.records s) s.abs) = some (PySem.W.openGood (PySem.W.view hR.prog [65]) hNames) := by
  kernel_rfl
theorem hRunC (w : World) (os : OsState) : (HandSHeadRun.endF (HandSHeadRun.stepQ (HandSHeadRun.denQ HandSHeadRun.tabQ) hR.prog w) 20000 hR.prog w os).map (fun s => (hOb s).1) = some (He.valX hFn [] w).1 := by
  kernel_rfl
theorem hRunD (w : World) (os : OsState) : (HandSHeadRun.endF (HandSHeadRun.stepQ (HandSHeadRun.denQ HandSHeadRun.tabQ) hR.prog w) 20000 hR.prog w os).map (fun s => (hOb s).2) = some true := by
  kernel_rfl
theorem map_four {α β γ δ ε : Type} {o : Option α} {f : α → β} {g : α → γ} {h : α → δ × ε} {x : β} {y : γ} {z : δ} {u : ε} (a : o.map f = some x) (b : o.map g = some y) (c : o.map (fun s => (h s).1) = some z) (d : o.map (fun s => (h s).2) = some u) : o.map (fun s => (f s, g s, h s)) = some (x, y, z, u) := by
  cases o with
  | none => cases a
  | some s =>
    have a := Option.some.inj a
    have b := Option.some.inj b
    have c := Option.some.inj c
    have d := Option.some.inj d
    dsimp only at a b c d
    show some (f s, g s, h s) = _
    rw [a, b, show h s = (z, u) from Prod.ext c d]
theorem hRun (w : World) : HandSHeadRun.RunEq hR (PySem.W.view hR.prog [65]) hK hOb 20000 hNames w := fun os => map_four (hRunA w os) (hRunB w os) (hRunC w os) (hRunD w os)
end TB
open PySem PySem.W PySem.Calls PyProof.Rows
set_option maxHeartbeats 0 in
theorem PySem.Challenge.cw_tearboard_k04_figures_that_meet_holds : PySem.Challenge.rw_tearboard_k04_figures_that_meet.Holds := by
  w_on; o_law
  refine HandSHeadRun.head_any (r := OpenLaw.row PySem.Challenge.rw_tearboard_k04_figures_that_meet) (q := view (OpenLaw.row PySem.Challenge.rw_tearboard_k04_figures_that_meet).prog [65]) (H := TB.hK) (ob := TB.hOb) (M := 20000) (loose := TB.hNames) (d := HandSHeadRun.topDef (OpenLaw.row PySem.Challenge.rw_tearboard_k04_figures_that_meet).prog 65) (kwd := []) TB.hOb_eq
    (by kernel_rfl) (fun s => by kernel_rfl) TB.hRun (by kernel_rfl) (by kernel_rfl) (by kernel_rfl) (by rfl) (by first | assumption | decide +kernel) (by decide +kernel) ⟨rfl, rfl, rfl, rfl, rfl, by decide +kernel⟩ ?hw ?hc
  case hw => w_witness2
  case hc =>
    refine LamX.walk_ofTsE (l := PySem.Challenge.rw_tearboard_k04_figures_that_meet) (n := 63) (k := 13) (x := "_law_script") (CX := fun _ => L2.CX0) rfl (by decide) (by kernel_rfl) ⟨rfl, by decide, by decide⟩ ?F (fun _ _ _ _ _ z => z)
    intro w mg fa h Y G hmg0
    obtain ⟨K, KX, c⟩ := Y
    have hmg : mg ("law" : PySem.Str) = some (.ref fa) := by
      have e : (HandSHeadRun.topDef (OpenLaw.row PySem.Challenge.rw_tearboard_k04_figures_that_meet).prog 65).name = ("law" : PySem.Str) := by kernel_rfl
      rw [← e]
      exact hmg0
    exact ⟨K, KX, TB.hFacts KX G hmg c⟩
