import PyProof.Rows.All
import Wide.All
import OpenK.AllK
import Wide.FinOn
import HandS.ForMost
import HandS.IsInst
import HandS.TupAny
import HandS.TupMul
import HandS.Wide
import HandS.Codes
import HandS.DictComp
import HandS.Walk
import HandS.Zip
import HandS.Deep
import HandS.MakeKwOnly
import HandS.SortRule
import HandS.SortInts
import HandS.TupSets
import HandS.CallRecv
import HandS.ExcInit
import HandS.ClsMeth
import HandS.ExcField
import HandS.TryMany
import HandS.Lambda
import HandS.ExcIs
import HandS.WordsExc
import HandS.Style
import HandS.Strs
import HandS.EndOwn
import KE.KStateDown
import KE.KNest
import KE.KNestM
import HandS.Defaults
import HandS.Head0
import HandS.Head1
import HandS.Head2
import HandS.HeadHook1
import HandS.HeadHook2
import HandS.HeadHook3
import HandS.HeadHook4
import HandS.HeadWalk
import KE.GoesMore
import KE.KExcInit
import KE.KExcIs
import HandS.OwnEq
import HandS.Nested
import HandS.Zip
import KE.KDictZip
import KE.KDflt
import PySem.Challenge.RW_tearboard_k38_heaps_of_other_books
set_option Elab.async false
set_option linter.all false
set_option maxRecDepth 100000
set_option maxHeartbeats 4000000
namespace TB
open PySem PySem.Spec PyProof.Rows L2
def topS (i : Nat) : Stmt := PySem.Challenge.pw_tearboard_k38_heaps_of_other_books.main.body.getD i (.Pass ⟨0, 0, 0, 0⟩)
/-! heaps -/
theorem same_upd {H : Hp} {p : Addr} {o : HO} (h : H p = none) : Same H (upd H p o) := fun b x e => by
  rw [upd_ne (ne_of_none e h)]
  exact e
/-- all that was tracked is as it was, but at b -/
def Off (b : Addr) (H H' : Hp) : Prop := ∀ a o, a ≠ b → H a = some o → H' a = some o
theorem Off.refl {b : Addr} {H : Hp} : Off b H H := fun _ _ _ h => h
theorem Off.trans {b : Addr} {H H1 H2 : Hp} (x : Off b H H1) (y : Off b H1 H2) : Off b H H2 := fun a o n h => y a o n (x a o n h)
theorem Off.same {b : Addr} {H H' : Hp} (x : Same H H') : Off b H H' := fun a o _ h => x a o h
theorem Off.upd {b : Addr} {H : Hp} {o : HO} : Off b H (upd H b o) := fun a x n h => by
  rw [upd_ne n]
  exact h
theorem Off.seqL {K : PySem.W.Frag} {b : Addr} {H H' : Hp} {a : Addr} {xs : List V} (x : Off b H H') (n : a ≠ b) (h : H a = some (.lst xs)) : H' a = some (.lst xs) := x a _ n h
/-- the bag of drawn numbers -/
structure Bag (H : Hp) (b c : Addr) : Prop where
  ex : ∃ (cells : List Int) (at' rest seed : Int), H b = some (.lst [.ref c, .int at', .int rest, .int seed]) ∧ H c = some (.lst (cells.map V.int)) ∧ 0 ≤ at' ∧ 0 ≤ rest ∧ 0 ≤ seed ∧ seed < 1000000000000 ∧ c ≠ b
theorem Bag.same {H H' : Hp} {b c : Addr} (h : Bag H b c) (x : Same H H') : Bag H' b c := by
  obtain ⟨cells, a, r, s, h1, h2, h3⟩ := h.ex
  exact ⟨cells, a, r, s, x _ _ h1, x _ _ h2, h3⟩
theorem Bag.ne {H : Hp} {b c p : Addr} (h : Bag H b c) (n : H p = none) : p ≠ b ∧ p ≠ c := by
  obtain ⟨cells, a, r, s, h1, h2, h3⟩ := h.ex
  exact ⟨(ne_of_none h1 n).symm, (ne_of_none h2 n).symm⟩
theorem Bag.upd {H : Hp} {b c p : Addr} {o : HO} (h : Bag H b c) (n : p ≠ b ∧ p ≠ c) : Bag (upd H p o) b c := by
  obtain ⟨cells, a, r, s, h1, h2, h3⟩ := h.ex
  refine ⟨cells, a, r, s, ?_, ?_, h3⟩
  · rw [upd_ne n.1.symm]
    exact h1
  · rw [upd_ne n.2.symm]
    exact h2
/-! ### exceptions of own classes over any of the plain built-in bases -/
/-- what the written part tells of the class at C; D is its mro behind C, B the built-in base -/
structure OexG (K : PySem.W.Frag) (C : Addr) : Prop where
  cls : ∃ (nm q : Str) (N : Addr) (bs bm : List Value) (sn : List Str) (sub : List Value) (ab : Bool) (col : Option Bool) (dd : Option Addr) (k0 k1 k2 k3 k5 : Option Value) (B nw it : String) (bmB : List Value),
    ExcBaseFacts B nw it bmB ∧ K.lookup C = some (excClassObj nm q C N bs bm true sn sub ab col dd k0 k1 k2 k3 k5 nw) ∧ (∀ Y : String, bm.contains (.type Y) = bmB.contains (.type Y)) ∧
      bmB.contains (.type "object") = true ∧ ∀ self : Value, refuseLoop self "__setattr__" (.ref C :: bm) = pure ()
  sa : PySem.W.findIn K (.ref C) "__setattr__" = some (some (.builtin "object.__setattr__"))
  exC : PySem.W.subIn K (.ref C) (.type "BaseException") = some true
  tyC : PySem.W.typeIn K (.ref C) = some (.type "type")
  kC : PySem.W.keepIn K (.ref C) = true
section
open Builtin Builtin.ObjectAttr PySem.W PySem.HandSPX
variable {prog : Program} {w : World} {A : Around} {R : Result → Shared → Prop} {hp : Heap} {g : Array GenState} {d : Drawn} {t : Nat} {os : OsState} {K : Frag} {name : Str} {tk : Tok} {v : Value} {x C : Addr} {fv : Array Value} {cd : ClassData}
/-- object.__setattr__ up to the own dict, whatever dict there is -/
theorem gosa {ox : Obj} {od : Option Obj} (hT : K.In hp) (I : InstAt hp x ox C od) (hcd : clsIn K C = some cd) (hne : cd.mro.isEmpty = false) (hob : cd.mro.contains (.type "object") = true) (hps : ∀ self : Value, refuseLoop self "__setattr__" cd.mro = pure ())
    (hno : findIn K (.ref C) name = some none)
    (hq : wpAny (model prog w) A.in1 (storeInOwnDict (.ref x) (.ref C) (.str name tk) name v false) (fun fin s' => match fin with | .done (.ret u) => R (.ok (.ret u)) s' | _ => False) (fun _ _ => False) ⟨hp, g, d, t, os⟩) :
    codeAny (model prog w) A (.call (.builtin "object.__setattr__") ⟨[.ref x, .str name tk, v], []⟩) R ⟨hp, g, d, t, os⟩ := by
  have so := PySem.F.store_object
  have isO : Looks (model prog w) hp (isInstance (.ref x) (.type "object")) true := I.type.andThen (looks_mroIn hT (by unfold mroIn; rw [hcd, Option.bind_some, if_neg (by rw [hne]; decide), hob]))
  refine codeAny_call_builtin so.slot.plain so.entry (@check_slot (model prog w) _ _ ⟨hp, g, d, t, os⟩ "object.__setattr__" "object" "__setattr__" (.ref x) [.str name tk, v] [] _ so.kind so.split isO (so.args (.ref x) (.str name tk) v) ?_)
  have lm : Looks (model prog w) hp (mroOf (.ref C)) cd.mro := (looks_clsIn hT hcd).andThen .now
  have ln : Looks (model prog w) hp (storeTaker? none) none := .now
  rw [osa_eq, refuse_eq]
  refine wpAny_bind (wpAny_bind (I.type.at (wpAny_bind (lm.at ?_))))
  rw [hps]
  refine wpAny_pure (wpAny_bind (I.type.at (wpAny_bind ((looks_findIn hT hno).at (wpAny_bind (ln.at ?_))))))
  refine wpAny_mono hq (fun fin s' z => ?_) fun _ _ z => z.elim
  rcases fin with (_ | _ | _ | _) | c <;> first | exact z | exact z.elim
/-- the first field: the dict is new -/
theorem gosa_new (hT : K.In hp) (hx : hp.get? x = some { cls := .ref C, data := .fields fv }) (hcd : clsIn K C = some cd) (hne : cd.mro.isEmpty = false) (hob : cd.mro.contains (.type "object") = true) (hps : ∀ self : Value, refuseLoop self "__setattr__" cd.mro = pure ())
    (hh : cd.hasDict = true) (hno : findIn K (.ref C) name = some none)
    (hq : ∀ h' tk' dx, (∀ b o, b ≠ x → hp.get? b = some o → h'.get? b = some o) → hp.objs.size ≤ dx → dx ≠ x → h'.get? x = some { cls := .ref C, dict := some dx, data := .fields fv } →
      h'.Ns1 dx (fun y => if y = name then some v else none) → R (.ok (.ret .none)) ⟨h', g, d, tk', os⟩) :
    codeAny (model prog w) A (.call (.builtin "object.__setattr__") ⟨[.ref x, .str name tk, v], []⟩) R ⟨hp, g, d, t, os⟩ := by
  refine gosa hT (⟨hx, rfl, rfl, trivial⟩ : InstAt hp x { cls := .ref C, data := .fields fv } C none) hcd hne hob hps hno ?_
  have lc : Looks (model prog w) hp (classData C) cd := looks_clsIn hT hcd
  have far : x ≠ hp.objs.size := Nat.ne_of_lt (Heap.lt_size hx)
  cases cd
  dsimp only at hh
  subst hh
  unfold storeInOwnDict ownDictForStores
  repeat (first | with_reducible refine store_in_new ?_ ?_ | with_reducible refine wpAny_loadPart_at hx ?_ | with_reducible refine lc.at ?_ | wp_step)
  · exact ⟨_, #[], _, (Heap.get?_update_ne _ _ _ _ far.symm).trans (Heap.get?_push_at rfl rfl), rfl, fun e he => absurd he (by simp), fun _ => rfl⟩
  · intro h' tk' hn' hs
    refine hq h' tk' hp.objs.size (fun b o hb ho => ?_) (Nat.le_refl _) far.symm ?_ hn'
    · exact (hs.2 b (Nat.ne_of_lt (Heap.lt_size ho))).trans ((Heap.get?_update_ne _ _ _ _ hb).trans (Heap.get?_push_of_some _ ho))
    · exact (hs.2 x far).trans (Heap.get?_update_self _ (Heap.get?_push_of_some _ hx) rfl)
/-- a later field: the dict is there -/
theorem gosa_old {dx : Addr} {m0 : Str → Option Value} {nl : List Str} (hT : K.In hp) (hx : hp.get? x = some { cls := .ref C, dict := some dx, data := .fields fv }) (hns : hp.Ns1 dx m0) (hw : Within m0 nl) (hz : nl.length ≤ 1000)
    (hcd : clsIn K C = some cd) (hne : cd.mro.isEmpty = false) (hob : cd.mro.contains (.type "object") = true) (hps : ∀ self : Value, refuseLoop self "__setattr__" cd.mro = pure ()) (hh : cd.hasDict = true) (hno : findIn K (.ref C) name = some none)
    (hq : ∀ h' tk', (∀ b o, b ≠ dx → hp.get? b = some o → h'.get? b = some o) → h'.Ns1 dx (fun y => if y = name then some v else m0 y) → R (.ok (.ret .none)) ⟨h', g, d, tk', os⟩) :
    codeAny (model prog w) A (.call (.builtin "object.__setattr__") ⟨[.ref x, .str name tk, v], []⟩) R ⟨hp, g, d, t, os⟩ := by
  obtain ⟨oD, _, _, hoD, _, _⟩ := hns.count hw
  refine gosa hT (⟨hx, rfl, rfl, hoD⟩ : InstAt hp x { cls := .ref C, dict := some dx, data := .fields fv } C (some oD)) hcd hne hob hps hno ?_
  have lc : Looks (model prog w) hp (classData C) cd := looks_clsIn hT hcd
  cases cd
  dsimp only at hh
  subst hh
  unfold storeInOwnDict ownDictForStores
  repeat (first | with_reducible refine PySem.OEX.store_in_old hns hw hz ?_ | with_reducible refine wpAny_loadPart_at hx ?_ | with_reducible refine lc.at ?_ | wp_step)
  intro h' tk' hn' hs
  exact hq h' tk' (fun b o hb ho => (hs.2 b hb).trans ho) hn'
end
section
variable {X : Cx} {pins : List (Addr × Obj)} {σ : L2.St} {H : Hp} {s : Shared} {a C dx : Addr} {f : Str} {y : V} {u : Value} {fs : List (Str × V)} {Q : Unit → Shared → Prop} {E : Value → Shared → Prop} {A : Around}
theorem OexG.clsD {K : PySem.W.Frag} {C : Addr} (T : OexG K C) : ∃ cd, PySem.W.clsIn K C = some cd ∧ cd.mro.isEmpty = false ∧ cd.mro.contains (.type "object") = true ∧ (∀ self : Value, refuseLoop self "__setattr__" cd.mro = pure ()) ∧ cd.hasDict = true := by
  obtain ⟨nm, q, N, bs, bm, sn, sub, ab, col, dd, k0, k1, k2, k3, k5, B, nw, it, bmB, F, hC, hc, ho, hp⟩ := T.cls
  refine ⟨{ name := nm, bases := bs, mro := .ref C :: bm, ns := N, qualname := q, hasDict := true, slotNames := sn, subclasses := sub, abstract := ab, collection := col, hasDel := false }, by unfold PySem.W.clsIn; rw [hC] <;> rfl, rfl, ?_, hp, rfl⟩
  show (Value.ref C :: bm).contains (.type "object") = true
  rw [List.contains_cons, hc, ho, Bool.or_true]
/-- self.f = y, the first field -/
theorem gost_new (T : OexG X.K C) (I : Inv X pins σ H s) (e : H a = some (exo a C none)) (hno : PySem.W.findIn X.K (.ref C) f = some none) (ry : RelV y u)
    (h : ∀ dx s', H dx = none → dx ≠ a → Inv X pins σ (upd (upd H dx (exd dx [(f, y)])) a (exo a C (some dx))) s' → Q () s') : wpAny (model X.prog X.w) A (setAttr (.ref a) f u) Q E s := by
  obtain ⟨cd, hcd, c1, c2, c3, c4⟩ := T.clsD
  obtain ⟨t1, ho⟩ := exo_at I.hok e
  obtain ⟨hp, g, dr, tk, os⟩ := s
  refine PySem.W.set_plain I.kIn (ox := { cls := .ref C, dict := none, data := .fields #[.ref t1, .none, .none, .none, .bool false, .none] }) (od := none) ⟨ho, rfl, rfl, trivial⟩ T.sa ?_
  refine gosa_new I.kIn ho hcd c1 c2 c3 c4 hno fun h' tk' dx kp big ndx hx hn => ?_
  have n0 : H dx = none := I.hok.fresh big
  have nd : ∀ {b : Addr} {o : Obj}, hp.get? b = some o → b ≠ dx := fun {b o} z => Nat.ne_of_lt (Nat.lt_of_lt_of_le (Heap.lt_size z) big)
  have na : ∀ {b : Addr}, H b = none → b ≠ a := fun {b} z1 z2 => by
    rw [z2, e] at z1
    cases z1
  have U : Un X.fs [] H (upd (upd H dx (exd dx [(f, y)])) a (exo a C (some dx))) hp h' :=
    ⟨fun b o z n _ _ => kp b o (na n) z, fun b o z n _ _ => ⟨o.slots, kp b o (na n) z⟩, fun b o z n _ => by rw [upd_ne (na n), upd_ne (nd z)]; exact n, fun b o z _ => by
      by_cases hb : b = a
      · exact ⟨_, by rw [hb]; exact hx⟩
      · exact ⟨o, kp b o hb z⟩,
     fun b xs z => by rw [upd_ne (at_ne e z exo_tup), upd_ne (ne_of_none z n0)]; exact z, fun b o w z => by rw [upd_ne (at_ne e z exo_frz), upd_ne (ne_of_none z n0)]; exact z,
     fun b ps z => ⟨#[], by rw [upd_ne (at_ne e z exo_tbl), upd_ne (ne_of_none z n0), z]; simp⟩⟩
  refine h dx _ n0 ndx (I.un (t' := tk') U fun b o z => ?_)
  by_cases hb : b = a
  · rw [hb, upd_same] at z
    cases z
    rw [hb]
    exact exo_ok hx
  rw [upd_ne hb] at z
  by_cases hd : b = dx
  · rw [hd, upd_same] at z
    cases z
    rw [hd]
    exact exd_ok hn (relO_put (fs := []) ry fun _ => True.intro)
  rw [upd_ne hd] at z
  refine (I.hok b o z).stay (fun c w hc z' => kp c w ?_ z') (fun c hc => ?_) fun c xs hc => ?_
  · rcases hc with hc | hc
    · rw [hc]
      exact hb
    · exact at_ne e hc exo_own
  · rw [upd_ne (at_ne e hc exo_own), upd_ne (ne_of_none hc n0)]
    exact hc
  · rw [upd_ne (at_ne e hc exo_tup), upd_ne (ne_of_none hc n0)]
    exact hc
/-- self.f = y, a later field -/
theorem gost_old (T : OexG X.K C) (I : Inv X pins σ H s) (e : H a = some (exo a C (some dx))) (ed : H dx = some (exd dx fs)) (hl : fs.length ≤ 900) (hno : PySem.W.findIn X.K (.ref C) f = some none) (ry : RelV y u)
    (h : ∀ s', Inv X pins σ (upd H dx (exd dx ((f, y) :: fs))) s' → Q () s') : wpAny (model X.prog X.w) A (setAttr (.ref a) f u) Q E s := by
  obtain ⟨cd, hcd, c1, c2, c3, c4⟩ := T.clsD
  obtain ⟨t1, ho⟩ := exo_at I.hok e
  obtain ⟨mA, hns, rel⟩ := exd_at I.hok ed
  have hw := within_of rel
  obtain ⟨hp, g, dr, tk, os⟩ := s
  obtain ⟨oD, _, _, hoD, _, _⟩ := hns.count hw
  refine PySem.W.set_plain I.kIn (ox := { cls := .ref C, dict := some dx, data := .fields #[.ref t1, .none, .none, .none, .bool false, .none] }) (od := some oD) ⟨ho, rfl, rfl, hoD⟩ T.sa ?_
  refine gosa_old I.kIn ho hns hw (by rw [List.length_map]; omega) hcd c1 c2 c3 c4 hno fun h' tk' kp hn => ?_
  have st : ∃ o, h'.get? dx = some o := by
    obtain ⟨o, _, _, z, _⟩ := hn
    exact ⟨o, z⟩
  exact h _ (I.write (t' := tk') (x := dx) (e := dx) (o := exd dx ((f, y) :: fs)) (by rw [ed]; exact True.intro) (.inl rfl) kp st (exd_ok hn (relO_put ry rel)))
end
/-- self.f = e, self an exception that is being made -/
def tGst (K : PySem.W.Frag) (f : Str) (to te : TE) : TS := fun D σ H => te σ H fun y H1 => to σ H1 fun x H2 => ∃ a C : Addr, x = .ref a ∧ OexG K C ∧ PySem.W.findIn K (.ref C) f = some none ∧
  ((H2 a = some (exo a C none) ∧ ∀ dx, H2 dx = none → dx ≠ a → D.nx σ (upd (upd H2 dx (exd dx [(f, y)])) a (exo a C (some dx)))) ∨
    ∃ (dx : Addr) (fs : List (Str × V)), H2 a = some (exo a C (some dx)) ∧ H2 dx = some (exd dx fs) ∧ fs.length ≤ 900 ∧ D.nx σ (upd H2 dx (exd dx ((f, y) :: fs))))
section
variable {X : Cx} {o e : Expr} {es : List Expr} {to te : TE} {ta : TA} {f : Str} {p p' p1 p2 pos : Pos}
theorem ps_gst (ho : PE X o to) (he : PE X e te) (hs : swapsWith e (some (.Attribute o f p')) pos.line X.env = pure false := by rfl) : PS X (.Assign [.Attribute o f p'] e pos) (tGst X.K f to te) := by
  refine ⟨fun pins s σ H D I h => ?_⟩
  refine plainObj_wpAny_Assign_Attribute (thn (he.run pins s σ H _ I h) fun v s1 ⟨y, H1, I1, r1, q1⟩ => thn (ho.run pins s1 σ H1 _ I1 q1) fun u s2 z => ?_) hs
  obtain ⟨x, H2, I2, r2, a, C, rfl, T, hno, q⟩ := z
  obtain rfl : u = Value.ref a := r2
  rcases q with ⟨ea, q⟩ | ⟨dx, fs, ea, ed, hl, q⟩
  · exact gost_new T I2 ea hno r1 fun dx s' n ne J => ⟨σ, _, J, q dx n ne⟩
  · exact gost_old T I2 ea ed hl hno r1 fun s' J => ⟨σ, _, J, q⟩
end
/-! ### making such an exception: C(e, ..), its own __init__ keeping sp -/
section
variable {X : Cx} {pins : List (Addr × Obj)} {σ : L2.St} {CX : CXT} {C fI : Addr} {k : Nat} {fd : FuncData} {ps : List Str} {sp : Sp} {ds : List Value} {dvs : List V}
/-- the call, its arguments at hand; G: what is wanted behind it -/
theorem gmake {H1 : Hp} {us : List Value} {vs : List V} {s1 : Shared} {Q' : VK} {G : Value → Shared → Prop} (T : OexG X.K C) (iC : PySem.W.findIn X.K (.ref C) "__init__" = some (some (.ref fI))) (tI : PySem.W.typeIn X.K (.ref fI) = some (.type "function"))
    (F1 : FnOk X.prog X.w X.K X.mg X.base CX k fI fd ps sp) (hr : Room (k + 1) X.A) (hb : Binds X.K fd ps ds) (hd : Vals dvs ds) (hx : Passes CX X (fun _ _ _ => False)) (I1 : Inv X pins σ H1 s1) (r1 : Vals vs us) (hz : vs.length ≤ 1000)
    (q1 : sp (.ref (s1.heap.objs.size + 1) :: (vs ++ dvs)) (upd H1 (s1.heap.objs.size + 1) (exo (s1.heap.objs.size + 1) C none)) Q' (fun _ _ _ => False))
    (hG : ∀ (s0 s2 : Shared) (u : Value), (∀ b o, s1.heap.get? b = some o → s0.heap.get? b = some o) → s0.os = s1.os → Inv X pins σ (upd H1 (s1.heap.objs.size + 1) (exo (s1.heap.objs.size + 1) C none)) s0 →
      CE X.stack X.prog X.w (upd H1 (s1.heap.objs.size + 1) (exo (s1.heap.objs.size + 1) C none)) s0 Q' u s2 → u = .none ∧ G (.ref (s1.heap.objs.size + 1)) s2) :
    wpAny (model X.prog X.w) X.A (call (.ref C) us) G X.xe s1 := by
  obtain ⟨nm, q, N, bs, bm, sn, sub, ab, col, dd, k0, k1, k2, k3, k5, B, nw, it, bmB, FB, hC, hc, _, _⟩ := T.cls
  obtain ⟨hp, g, dr, tk, os⟩ := s1
  dsimp only at q1 hG
  have up : ∀ b o, hp.get? b = some o → ((hp.push (PySem.W.kdv_tup us)).push (PySem.HandSPX.excO C hp.objs.size)).get? b = some o := fun b o z => Heap.get?_push_of_some _ (Heap.get?_push_of_some _ z)
  have new : ((hp.push (PySem.W.kdv_tup us)).push (PySem.HandSPX.excO C hp.objs.size)).get? (hp.objs.size + 1) = some (PySem.HandSPX.excO C hp.objs.size) := by heap_get
  have J : Inv X pins σ (upd H1 (hp.objs.size + 1) (exo (hp.objs.size + 1) C none)) ⟨(hp.push (PySem.W.kdv_tup us)).push (PySem.HandSPX.excO C hp.objs.size), g, dr, tk, os⟩ :=
    I1.laid (t' := tk) (a := hp.objs.size + 1) (o := exo (hp.objs.size + 1) C none) (h' := (hp.push (PySem.W.kdv_tup us)).push (PySem.HandSPX.excO C hp.objs.size)) up (Nat.le_succ _) (exo_ok new)
  have rr : Vals (V.ref (hp.objs.size + 1) :: (vs ++ dvs)) (Value.ref (hp.objs.size + 1) :: (us ++ ds)) := .cons rfl (r1.append hd)
  have hl : (Value.ref (hp.objs.size + 1) :: us ++ ds).length = ps.length := rr.length.symm.trans (F1.len _ _ _ _ q1)
  have hu : us.length ≤ sizeLine := by
    rw [← Paired.length r1, sizeLine_eq]
    omega
  refine wpAny_call (PySem.HandSPX.call_own FB hc (I1.kIn _ _ hC) (PySem.W.looks_findIn I1.kIn iC) (fun self => PySem.W.bind_fn I1.kIn self tI) hu ?_)
  refine codeAny_mono (F1.run _ X.stack _ _ ⟨Value.ref (hp.objs.size + 1) :: us, []⟩ (Value.ref (hp.objs.size + 1) :: (us ++ ds)) _ _ (fun _ _ _ => False) (hr.make C us []) (J.env0.make C us []) (hb _ (Value.ref (hp.objs.size + 1) :: us) J.kIn hl) rr q1) fun r s' z => ?_
  cases r with
  | error er => exact hx pins σ _ _ er s' J z
  | ok fl =>
    cases fl with
    | ret u => exact hG _ s' u up rfl J z
    | next => exact False.elim z
    | brk => exact False.elim z
    | cont => exact False.elim z
/-- .. to be raised -/
theorem gmake_x {H1 : Hp} {us : List Value} {vs : List V} {s1 : Shared} {Q : XK} (T : OexG X.K C) (iC : PySem.W.findIn X.K (.ref C) "__init__" = some (some (.ref fI))) (tI : PySem.W.typeIn X.K (.ref fI) = some (.type "function"))
    (F1 : FnOk X.prog X.w X.K X.mg X.base CX k fI fd ps sp) (hr : Room (k + 1) X.A) (hb : Binds X.K fd ps ds) (hd : Vals dvs ds) (hx : Passes CX X (fun _ _ _ => False)) (I1 : Inv X pins σ H1 s1) (r1 : Vals vs us) (hz : vs.length ≤ 1000)
    (q1 : ∀ a, H1 a = none → sp (.ref a :: (vs ++ dvs)) (upd H1 a (exo a C none))
      (fun v H2 => v = .non ∧ ∃ (d : Addr) (fs : List (Str × V)), H2 a = some (exo a C (some d)) ∧ H2 d = some (exd d fs) ∧ H1 d = none ∧ Q (.ref C) (some d) (upd (del H2 a) d (.xd fs))) (fun _ _ _ => False)) :
    wpAny (model X.prog X.w) X.A (call (.ref C) us) (MkP X pins σ Q) X.xe s1 := by
  refine gmake T iC tI F1 hr hb hd hx I1 r1 hz (q1 _ (I1.hok.fresh (Nat.le_succ _))) fun s0 s2 u up e0 J z => ?_
  obtain ⟨v, H2, os2, bare2, un2, hok2, rv, ev, d, fs, ea, ed, hd1, q2⟩ := z
  subst ev
  obtain ⟨h1, g1, d1, t1, o1⟩ := s1
  obtain ⟨h2, g2, d2, t2, o2⟩ := s2
  obtain ⟨h0, g0, d0, t0, o0⟩ := s0
  obtain rfl : o0 = o1 := e0
  exact ⟨rv, mk_end (raises_own T.exC T.tyC) I1 (Nat.le_succ _) up un2 hok2 os2 bare2 ea ed hd1 q2⟩
variable {x : Str} {p pos : Pos} {e : Expr} {es : List Expr} {ta : TA}
theorem pmk_gex (T : OexG X.K C) (iC : PySem.W.findIn X.K (.ref C) "__init__" = some (some (.ref fI))) (tI : PySem.W.typeIn X.K (.ref fI) = some (.type "function"))
    (F1 : FnOk X.prog X.w X.K X.mg X.base CX k fI fd ps sp) (hr : Room (k + 1) X.A) (hb : Binds X.K fd ps ds) (hd : Vals dvs ds) (hx : Passes CX X (fun _ _ _ => False)) (hg : Gl X x) (hm : X.mg x = some (.ref C)) (ha : PA X (e :: es) ta)
    (hdb : (x == ("__debug__" : Str)) = false := by decide) (he : starEach (e :: es) X.env = (false, eval e X.env) :: starEach es X.env := by rfl) (hpl : (backTo pos (starEach es X.env)).any (·.1) = false := by rfl) :
    PMk X (.Call (.Name x p) (e :: es) [] pos) (tMkO C sp dvs ta) := by
  intro pins s σ H Q I h
  refine wpAny_Call_Name_kw (ld_glob I hg hm ?_ hdb)
  refine PySem.W.callWith_K (h₀ := X.base) I.ok.mod.kin T.kC (thn (ha.run pos pins s σ H _ I h) fun us s1 z => ?_) he hpl
  obtain ⟨vs, H1, I1, r1, hz, q1⟩ := z
  exact ⟨I1.kIn, gmake_x T iC tI F1 hr hb hd hx I1 r1 hz q1⟩
theorem pmk_gex0 (T : OexG X.K C) (iC : PySem.W.findIn X.K (.ref C) "__init__" = some (some (.ref fI))) (tI : PySem.W.typeIn X.K (.ref fI) = some (.type "function"))
    (F1 : FnOk X.prog X.w X.K X.mg X.base CX k fI fd ps sp) (hr : Room (k + 1) X.A) (hb : Binds X.K fd ps ds) (hd : Vals dvs ds) (hx : Passes CX X (fun _ _ _ => False)) (hg : Gl X x) (hm : X.mg x = some (.ref C))
    (hdb : (x == ("__debug__" : Str)) = false := by decide) : PMk X (.Call (.Name x p) [] [] pos) (tMkO C sp dvs tNil) := by
  intro pins s σ H Q I h
  refine wpAny_Call_Name_kw (ld_glob I hg hm ?_ hdb)
  exact PySem.W.callWith_K0 I.kIn T.kC (gmake_x (us := []) T iC tI F1 hr hb hd hx I .nil h.1 h.2)
/-- C(e, ..) as a value that is kept -/
def tMkV (C : Addr) (sp : Sp) (dvs : List V) (ta : TA) : TE := fun σ H Q => ta σ H fun vs H1 => vs.length ≤ 1000 ∧ ∀ a, H1 a = none → sp (.ref a :: (vs ++ dvs)) (upd H1 a (exo a C none)) (fun v H2 => v = .non ∧ Q (.ref a) H2) (fun _ _ _ => False)
theorem gmake_v {H1 : Hp} {us : List Value} {vs : List V} {s1 : Shared} {Q : VK} (T : OexG X.K C) (iC : PySem.W.findIn X.K (.ref C) "__init__" = some (some (.ref fI))) (tI : PySem.W.typeIn X.K (.ref fI) = some (.type "function"))
    (F1 : FnOk X.prog X.w X.K X.mg X.base CX k fI fd ps sp) (hr : Room (k + 1) X.A) (hb : Binds X.K fd ps ds) (hd : Vals dvs ds) (hx : Passes CX X (fun _ _ _ => False)) (I1 : Inv X pins σ H1 s1) (r1 : Vals vs us) (hz : vs.length ≤ 1000)
    (q1 : ∀ a, H1 a = none → sp (.ref a :: (vs ++ dvs)) (upd H1 a (exo a C none)) (fun v H2 => v = .non ∧ Q (.ref a) H2) (fun _ _ _ => False)) :
    wpAny (model X.prog X.w) X.A (call (.ref C) us) (EP X pins σ Q) X.xe s1 := by
  refine gmake T iC tI F1 hr hb hd hx I1 r1 hz (q1 _ (I1.hok.fresh (Nat.le_succ _))) fun s0 s2 u up e0 J z => ?_
  obtain ⟨v, H2, J2, rv, ev, q2⟩ := J.after z
  subst ev
  exact ⟨rv, .ref (s1.heap.objs.size + 1), H2, J2, rfl, q2⟩
theorem pe_gex (T : OexG X.K C) (iC : PySem.W.findIn X.K (.ref C) "__init__" = some (some (.ref fI))) (tI : PySem.W.typeIn X.K (.ref fI) = some (.type "function"))
    (F1 : FnOk X.prog X.w X.K X.mg X.base CX k fI fd ps sp) (hr : Room (k + 1) X.A) (hb : Binds X.K fd ps ds) (hd : Vals dvs ds) (hx : Passes CX X (fun _ _ _ => False)) (hg : Gl X x) (hm : X.mg x = some (.ref C)) (ha : PA X (e :: es) ta)
    (hdb : (x == ("__debug__" : Str)) = false := by decide) (he : starEach (e :: es) X.env = (false, eval e X.env) :: starEach es X.env := by rfl) (hpl : (backTo pos (starEach es X.env)).any (·.1) = false := by rfl) :
    PE X (.Call (.Name x p) (e :: es) [] pos) (tMkV C sp dvs ta) := by
  refine ⟨fun pins s σ H Q I h => ?_⟩
  refine wpAny_Call_Name_kw (ld_glob I hg hm ?_ hdb)
  refine PySem.W.callWith_K (h₀ := X.base) I.ok.mod.kin T.kC (thn (ha.run pos pins s σ H _ I h) fun us s1 z => ?_) he hpl
  obtain ⟨vs, H1, I1, r1, hz, q1⟩ := z
  exact ⟨I1.kIn, gmake_v T iC tI F1 hr hb hd hx I1 r1 hz q1⟩
theorem pe_gex0 (T : OexG X.K C) (iC : PySem.W.findIn X.K (.ref C) "__init__" = some (some (.ref fI))) (tI : PySem.W.typeIn X.K (.ref fI) = some (.type "function"))
    (F1 : FnOk X.prog X.w X.K X.mg X.base CX k fI fd ps sp) (hr : Room (k + 1) X.A) (hb : Binds X.K fd ps ds) (hd : Vals dvs ds) (hx : Passes CX X (fun _ _ _ => False)) (hg : Gl X x) (hm : X.mg x = some (.ref C))
    (hdb : (x == ("__debug__" : Str)) = false := by decide) : PE X (.Call (.Name x p) [] [] pos) (tMkV C sp dvs tNil) := by
  refine ⟨fun pins s σ H Q I h => ?_⟩
  refine wpAny_Call_Name_kw (ld_glob I hg hm ?_ hdb)
  exact PySem.W.callWith_K0 I.kIn T.kC (gmake_v (us := []) T iC tI F1 hr hb hd hx I .nil h.1 h.2)
end
/-! ### C.m(e, ..): a plain def of a class, called by the class's name -/
/-- the class at C tells of its def g under the name m -/
structure CFn (K : PySem.W.Frag) (C : Addr) (m : Str) (g : Addr) : Prop where
  rd : PySem.W.readsIn K C (.type "type") = true
  ga : PySem.W.specialIn K (.ref C) "__getattribute__" = some (some (.builtin "type.__getattribute__"))
  at_ : PySem.W.findCls K (.ref C) (.type "type") m = some (.val (.ref g))
  kp : PySem.W.keepIn K (.ref g) = true
section
variable {X : Cx} {CX : CXT} {k : Nat} {C g : Addr} {fd : FuncData} {ps : List Str} {sp : Sp} {ds : List Value} {dvs : List V} {E : XK} {e : Expr} {es : List Expr} {c m : Str} {p pos apos : Pos} {t : TA} {pl : Sem Bool}
theorem pe_cfn (T : CFn X.K C m g) (F : FnOk X.prog X.w X.K X.mg X.base CX k g fd ps sp) (hr : Room k X.A) (hb : Binds X.K fd ps ds) (hd : Vals dvs ds) (hx : Passes CX X E) (hg : Gl X c) (hm : X.mg c = some (.ref C)) (ha : PA X (e :: es) t)
    (hdb : (c == ("__debug__" : Str)) = false := by decide) (hst : starEach (e :: es) X.env = (false, eval e X.env) :: starEach es X.env := by rfl) (hpl : (backTo pos (starEach es X.env)).any (·.1) = false := by rfl)
    (ht : eval (.Call (.Attribute (.Name c p) m apos) (e :: es) [] pos) X.env = (do
      let ov ← eval (.Name c p) X.env
      standAt apos.atName
      let (f, first) ← holding [ov] (getMethod ov m pl)
      callWith pos f first (backTo pos (starEach (e :: es) X.env)) (backToKw pos (keywordEach [] X.env))) := by rfl) :
    PE X (.Call (.Attribute (.Name c p) m apos) (e :: es) [] pos) (tCall sp dvs E t) := by
  refine ⟨fun pins s σ H Q I h => ?_⟩
  refine PySem.W.methodCall_KW (pl := pl) (ld_glob I hg hm ?_ hdb) ht
  refine PySem.W.method_cls I.kIn T.ga (PySem.W.cls_value I.kIn T.rd T.at_ rfl ?_)
  refine PySem.W.callWith_K (h₀ := X.base) (first := []) I.ok.mod.kin T.kp (thn (ha.run pos pins _ σ H _ (I.tok _) h) fun us s1 z => ?_) hst hpl
  obtain ⟨vs, H1, I1, r, q⟩ := z
  exact ⟨I1.kIn, run_fn F hr hb hd hx I1 r q⟩
end
/-! ### what the __init__s keep -/
/-- a base: self.word = word -/
def spBase (K : PySem.W.Frag) : Sp := fun vs H Q _ => ∃ (a C : Addr) (y : V), vs = [.ref a, y] ∧ OexG K C ∧ PySem.W.findIn K (.ref C) "word" = some none ∧ H a = some (exo a C none) ∧
  ∀ dx, H dx = none → dx ≠ a → Q .non (upd (upd H dx (exd dx [("word", y)])) a (exo a C (some dx)))
/-- a class of refusals: n values, kept under the names that fs tells -/
def spMade (C : Addr) (n : Nat) (fs : List V → List (Str × V)) : Sp := fun vs H Q _ => ∃ (a : Addr) (ws : List V), vs = .ref a :: ws ∧ ws.length = n ∧ H a = some (exo a C none) ∧
  ∀ (dx : Addr) (H2 : Hp), H dx = none → dx ≠ a → (∀ b, b ≠ a → b ≠ dx → H2 b = H b) → H2 a = some (exo a C (some dx)) → H2 dx = some (exd dx (fs ws)) → Q .non H2
/-- all that is wanted of a class of refusals by the def that makes one -/
structure ExcK (P : Program) (w : World) (K : PySem.W.Frag) (mg : Str → Option Value) (base : Heap) (k : Nat) (nm : Str) (C : Addr) (n : Nat) (fs : List V → List (Str × V)) : Prop where
  oex : OexG K C
  mgC : mg nm = some (.ref C)
  init : ∃ (fI : Addr) (fd : FuncData) (ps : List Str), PySem.W.findIn K (.ref C) "__init__" = some (some (.ref fI)) ∧ PySem.W.typeIn K (.ref fI) = some (.type "function") ∧ FnOk P w K mg base CX0 k fI fd ps (spMade C n fs) ∧ Binds K fd ps []
/-- the reading: nm(e, ..), to be raised -/
def tRef (C : Addr) (n : Nat) (fs : List V → List (Str × V)) (ta : TA) : L2.St → Hp → XK → Prop := fun σ H Q => ta σ H fun vs H1 => vs.length = n ∧ vs.length ≤ 1000 ∧ ∀ (d : Addr) (H2 : Hp), H1 d = none → (∀ b, b ≠ d → H1 b ≠ none → H2 b = H1 b) → H2 d = some (.xd (fs vs)) → Q (.ref C) (some d) H2
section
variable {X : Cx} {k : Nat} {nm : Str} {C : Addr} {n : Nat} {fs : List V → List (Str × V)} {p pos : Pos} {e : Expr} {es : List Expr} {ta : TA}
theorem tRef_mk {H1 : Hp} {vs : List V} {Q : XK} (hn : vs.length = n) (h : ∀ (d : Addr) (H2 : Hp), H1 d = none → (∀ b, b ≠ d → H1 b ≠ none → H2 b = H1 b) → H2 d = some (.xd (fs vs)) → Q (.ref C) (some d) H2) (a : Addr) (ha : H1 a = none) :
    spMade C n fs (.ref a :: (vs ++ [])) (upd H1 a (exo a C none))
      (fun v H2 => v = .non ∧ ∃ (d : Addr) (gs : List (Str × V)), H2 a = some (exo a C (some d)) ∧ H2 d = some (exd d gs) ∧ H1 d = none ∧ Q (.ref C) (some d) (upd (del H2 a) d (.xd gs))) (fun _ _ _ => False) := by
  refine ⟨a, vs, by rw [List.append_nil], hn, upd_same, fun dx H2 h1 h2 h3 h4 h5 => ⟨rfl, dx, _, h4, h5, ?_, ?_⟩⟩
  · rw [upd_ne h2] at h1
    exact h1
  · rw [upd_ne h2] at h1
    refine h dx _ h1 (fun b hb hb2 => ?_) upd_same
    have nb : b ≠ a := fun z => hb2 (by rw [z]; exact ha)
    rw [upd_ne hb, del_ne nb, h3 b nb hb, upd_ne nb]
theorem pmk_ref (T : ExcK X.prog X.w X.K X.mg X.base k nm C n fs) (hr : Room (k + 1) X.A) (hg : Gl X nm) (ha : PA X (e :: es) ta)
    (hdb : (nm == ("__debug__" : Str)) = false := by decide) (he : starEach (e :: es) X.env = (false, eval e X.env) :: starEach es X.env := by rfl) (hpl : (backTo pos (starEach es X.env)).any (·.1) = false := by rfl) :
    PMk X (.Call (.Name nm p) (e :: es) [] pos) (tRef C n fs ta) := by
  obtain ⟨fI, fd, ps, i1, i2, i3, i4⟩ := T.init
  intro pins s σ H Q I h
  refine wpAny_Call_Name_kw (ld_glob I hg T.mgC ?_ hdb)
  refine PySem.W.callWith_K (h₀ := X.base) I.ok.mod.kin T.oex.kC (thn (ha.run pos pins s σ H _ I h) fun us s1 z => ?_) he hpl
  obtain ⟨vs, H1, I1, r1, z1, z2, z3⟩ := z
  exact ⟨I1.kIn, gmake_x T.oex i1 i2 i3 hr i4 .nil pass0 I1 r1 z2 (tRef_mk z1 z3)⟩
theorem pmk_ref0 (T : ExcK X.prog X.w X.K X.mg X.base k nm C n fs) (hr : Room (k + 1) X.A) (hg : Gl X nm) (hdb : (nm == ("__debug__" : Str)) = false := by decide) : PMk X (.Call (.Name nm p) [] [] pos) (tRef C n fs tNil) := by
  obtain ⟨fI, fd, ps, i1, i2, i3, i4⟩ := T.init
  intro pins s σ H Q I h
  exact pmk_gex0 T.oex i1 i2 i3 hr i4 .nil pass0 hg T.mgC hdb pins s σ H Q I ⟨h.2.1, fun a ha => tRef_mk h.1 h.2.2 a ha⟩
end
/-! ### except (A, B, ..) as n: any number of classes, any number of clauses -/
section
open PySem.W
variable {M : Model} {K : Frag} {A : Around} {E : Value → Shared → Prop}
theorem exm_walk1 {cls : Value} {h : Heap} {f : Value → PUnit → Sem (ForInStep PUnit)} (hf : ∀ (c : Value) (b : Bool), exmOne K cls c = some b → Looks M h (f c PUnit.unit) (.yield PUnit.unit)) :
    ∀ (cs : List Value) (b : Bool), exmAny K cls cs = some b → Looks M h (forIn cs PUnit.unit f) PUnit.unit := by
  intro cs
  induction cs with
  | nil =>
    intro b _ A Q E s k q
    rw [List.forIn_nil]
    exact wpAny_pure q
  | cons c r ih =>
    intro b hb A Q E s k q
    obtain ⟨b1, d1, e1, e2, _⟩ := exmAny_cons hb
    rw [List.forIn_cons]
    refine wpAny_bind (hf c b1 e1 A _ E s k ?_)
    exact ih d1 e2 A Q E s k q
theorem exm_walk2 {cls : Value} {h : Heap} {f : Value → Option Bool × Unit → Sem (ForInStep (Option Bool × Unit))}
    (hf : ∀ (c : Value) (b : Bool), exmOne K cls c = some b → Looks M h (f c (none, ())) (if b = true then .done (some true, ()) else .yield (none, ()))) :
    ∀ (cs : List Value) (b : Bool), exmAny K cls cs = some b → Looks M h (forIn cs (none, ()) f) (if b = true then some true else none, ()) := by
  intro cs
  induction cs with
  | nil =>
    intro b hb A Q E s k q
    have z : some false = some b := hb
    cases z
    rw [List.forIn_nil]
    exact wpAny_pure q
  | cons c r ih =>
    intro b hb A Q E s k q
    obtain ⟨b1, d1, e1, e2, e3⟩ := exmAny_cons hb
    rw [List.forIn_cons]
    refine wpAny_bind (hf c b1 e1 A _ E s k ?_)
    cases b1 with
    | true =>
      rw [if_pos rfl]
      have z : b = true := e3
      rw [z] at q
      exact wpAny_pure q
    | false =>
      rw [if_neg Bool.false_ne_true]
      have z : b = d1 := e3
      rw [z] at q
      exact ih d1 e2 A Q E s k q
theorem exm_tupN {cs : List Value} {cls : Value} {tp e : Addr} {b : Bool} {h : Heap} (X : K.In h) (LT : Looks M h (typeOf (.ref e)) cls) (hp : h.get? tp = some { cls := .type "tuple", data := .seq cs.toArray }) (hx : exmAny K cls cs = some b) :
    Looks M h (excMatches (.ref e) (.ref tp)) b := by
  intro A Q E s k₀ q
  obtain ⟨hh, g, d, tk, os⟩ := s
  have k : ∀ b o, h.get? b = some o → hh.get? b = some o := k₀
  have isT : Looks M h (isInstance (.ref tp) (.type "tuple")) true := ((Looks.ld hp).andThen .now).andThen (Looks.of_pure isSubtype_tuple_tuple)
  have w1 := exm_walk1 (M := M) (h := h) (K := K) (cls := cls) (f := fun c __s => do
      let __do_lift ← isExcClass c
      if (!__do_lift) = true then do
          rule "try.except-non-exception-class"
          raiseErrorWords "TypeError" "catching classes that do not inherit from BaseException is not allowed"
          pure (ForInStep.yield PUnit.unit)
        else pure (ForInStep.yield PUnit.unit)) (fun c b hc A Q E s k q => wpAny_bind (((exm_cls (M := M) X hc).1.keeps k).here (by rw [if_neg (by decide)]; exact wpAny_pure q))) cs b hx
  have w2 := exm_walk2 (M := M) (h := h) (K := K) (cls := cls) (f := fun c __s => do
      let __do_lift ← isSubtype cls c
      if __do_lift = true then pure (ForInStep.done (some true, ())) else pure (ForInStep.yield (none, ())))
    (fun c b hc A Q E s k q => wpAny_bind (((exm_cls (M := M) X hc).2.keeps k).here (by cases b <;> exact wpAny_pure q))) cs b hx
  unfold excMatches
  refine wpAny_bind ((isT.keeps k).at ?_)
  dsimp only
  rw [if_pos rfl]
  first
    | refine wpAny_bind (wpAny_seqItems (k _ _ hp) rfl ?_)
    | refine wpAny_bind (wpAny_bind (wpAny_seqItems (k _ _ hp) rfl (wpAny_pure ?_)))
  dsimp only [Option.getD_some, Option.getD]
  first
    | refine wpAny_pure (wpAny_bind ((w1.keeps k).at (wpAny_bind ((LT.keeps k).at (wpAny_bind ((w2.keeps k).at ?_))))))
    | refine wpAny_bind (wpAny_pure (wpAny_bind ((w1.keeps k).at (wpAny_bind ((LT.keeps k).at (wpAny_bind ((w2.keeps k).at ?_)))))))
  cases b <;> exact wpAny_pure q
end
theorem flyZ_keeps {B : Heap} {l : List Env} {a : Addr} {Z : Obj → Prop} {h h' : Heap} (fl : HandSPX.FlyingZ B l a Z h) (k : ∀ b o, h.get? b = some o → h'.get? b = some o) : HandSPX.FlyingZ B l a Z h' := by
  obtain ⟨k1, k2, k3, oe, vs, T, oT, ts, he, hz, hd, h1, hnT, hTe, hT, hdT, h3⟩ := fl
  exact ⟨fun b o z => k b o (k1 b o z), k2, k3.of_keeps (fun b o hb _ => ⟨o, k b o hb, rfl⟩), oe, vs, T, oT, ts, k _ _ he, hz, hd, h1, hnT, hTe, k _ _ hT, hdT, h3⟩
/-- the classes that an except clause names -/
inductive NamesL (X : Cx) : List Expr → List Value → Prop
  | nil : NamesL X [] []
  | cons {x : Str} {c : Value} {p : Pos} {es : List Expr} {cs : List Value} : Names X x c → NamesL X es cs → NamesL X (.Name x p :: es) (c :: cs)
inductive TestIs (X : Cx) : Expr → List Value → Prop
  | one {x : Str} {c : Value} {p : Pos} : Names X x c → TestIs X (.Name x p) [c]
  | tup {es : List Expr} {cs : List Value} {k : Nat} {p : Pos} : NamesL X es cs → cs.length ≤ 1000 → TestIs X (.Tuple es k p) cs
section
variable {X : Cx} {a : Addr} {pn : List (Addr × Obj)} {σ : L2.St} {H : Hp} {s : Shared}
theorem name_run {x : Str} {c : Value} {p : Pos} {Q : Value → Shared → Prop} {E : Value → Shared → Prop} (S : Inv (X.suite a pn) [] σ H s) (n : Names X x c) (q : Q c s) : wpAny (model X.prog X.w) (X.A.mark (some (.ref a))) (eval (.Name x p) X.env) Q E s := by
  obtain ⟨hg, hd, hm | ⟨hm, hv, hn⟩⟩ := n
  · exact ld_glob (X := X.suite a pn) S hg hm q hd
  · exact ld_blt (X := X.suite a pn) S hg hm hv q hn hd
theorem names_run {E : Value → Shared → Prop} {pos : Pos} (S : Inv (X.suite a pn) [] σ H s) : ∀ {es : List Expr} {cs : List Value} {Q : List Value → Shared → Prop}, NamesL X es cs → Q cs s → wpAny (model X.prog X.w) (X.A.mark (some (.ref a))) (spliced (backTo pos (starEach es X.env))) Q E s := by
  intro es cs Q n
  induction n generalizing Q with
  | nil => exact fun q => wpAny_items_nil q
  | cons hn _ ih => exact fun q => wpAny_items_cons (name_run S hn (ih (Q := fun vs s2 => Q (_ :: vs) s2) q))
theorem test_run {t : Expr} {cs : List Value} {cls : Value} {b : Bool} {Q : Bool → Shared → Prop} {E : Value → Shared → Prop} (S : Inv (X.suite a pn) [] σ H s) (T : TestIs X t cs) (LT : PySem.W.Looks (model X.prog X.w) s.heap (typeOf (.ref a)) cls) (hx : PySem.W.exmAny X.K cls cs = some b)
    (hq : ∀ h', (∀ q o, s.heap.get? q = some o → h'.get? q = some o) → Q b { s with heap := h' }) :
    wpAny (model X.prog X.w) (X.A.mark (some (.ref a))) (eval t X.env) (fun c s₁ => wpAny (model X.prog X.w) (X.A.mark (some (.ref a))) (excMatches (.ref a) c) Q E s₁) E s := by
  cases T with
  | one n =>
    obtain ⟨b1, d1, e1, e2, e3⟩ := PySem.W.exmAny_cons hx
    have z : some false = some d1 := e2
    cases z
    rw [Bool.or_false] at e3
    subst e3
    exact name_run S n ((PySem.W.exm_one S.kIn LT e1).here (hq s.heap fun _ _ z => z))
  | tup n hl =>
    refine wpAny_Tuple (names_run S n ⟨by rw [sizeLine_eq]; omega, ?_⟩)
    have kp : ∀ q o, s.heap.get? q = some o → (s.heap.push { cls := .type "tuple", data := .seq cs.toArray }).get? q = some o := fun _ _ z => Heap.get?_push_of_some _ z
    exact (exm_tupN (S.kIn.keeps kp) (LT.keeps kp) (Heap.get?_push_size s.heap rfl) hx).here (hq _ kp)
end
/-- what the clauses 'except .. as n' wish of an exception of the body, one behind the other: slot i is n's -/
def wAsN (K : PySem.W.Frag) (i : Nat) (Wout : WX) (D : Ends) : List (List Value × (Addr → Value → Option Addr → TS)) → WX
  | [] => Wout
  | (cs, ts) :: r => fun cls d σ H => ∃ b, PySem.W.exmAny K cls cs = some b ∧
      (b = true → ∀ a, H a = none → ts a cls d { nx := fun σ' H' => D.nx (σ'.set i none) H', rt := D.rt, bk := fun σ' H' => D.bk (σ'.set i none) H', ct := fun σ' H' => D.ct (σ'.set i none) H' } (σ.set i (some (.ref a))) H) ∧
      (b = false → wAsN K i Wout D r cls d σ H)
inductive HdsAs (X : Cx) (n : Str) : List ExceptHandler → List (List Value × (Addr → Value → Option Addr → TS)) → Prop
  | nil : HdsAs X n [] []
  | cons {t : Expr} {cs : List Value} {ts : Addr → Value → Option Addr → TS} {b₀ : Stmt} {suite : List Stmt} {pos' : Pos} {hds : List ExceptHandler} {l : List (List Value × (Addr → Value → Option Addr → TS))} (ht : TestIs X t cs)
      (hsu : ∀ (a : Addr) (oe : Obj) (cls : Value) (d : Option Addr) (pn : List (Addr × Obj)), Zc cls d oe → (∃ vs, oe.data = .fields vs) → PSs (X.suite a ((a, oe) :: pn)) (b₀ :: suite) (ts a cls d)) (r : HdsAs X n hds l) :
      HdsAs X n (.ExceptHandler (some t) (some n) (b₀ :: suite) pos' :: hds) ((cs, ts) :: l)
section
variable {X : Cx} {n : Str} {i : Nat} {body : List Stmt} {h₀ : ExceptHandler} {hds : List ExceptHandler} {l : List (List Value × (Addr → Value → Option Addr → TS))} {pos : Pos} {tb : WX → TS} {Wout : WX}
/-- the clauses are gone through, the exception at a being caught -/
theorem hds_run (hs : X.stack = X.env :: X.outer) (hf : X.env.frame = some X.env.locals) (hN : X.N.Nodup) (hi : X.N[i]? = some n) (hln : X.env.kindOf n = some .local) (tk : Takes X Wout)
    {pins : List (Addr × Obj)} {a : Addr} {B : Heap} {sI : Shared} {σ : L2.St} {H : Hp} {cls : Value} {d : Option Addr} {D : Ends} (J : Inv X pins σ H sI) (nb : ∀ b o, sI.heap.get? b = some o → b ∉ frs X.stack → B.get? b = some o) (na : H a = none) :
    ∀ {hs' : List ExceptHandler} {l' : List (List Value × (Addr → Value → Option Addr → TS))}, HdsAs X n hs' l' → wAsN X.K i Wout D l' cls d σ H → ∀ s' : Shared, HandSPX.FlyingZ B (X.env :: X.outer) a (Zc cls d) s'.heap → sI.heap.UpToSlots s'.heap → s'.os = sI.os → AllBare s'.gens →
      wpAny (model X.prog X.w) X.A (handleBy (.ref a) X.env hs') (SP X pins D) X.xe s' := by
  intro hs' l' hk
  induction hk with
  | nil =>
    intro w s' fl up os ag
    refine wpAny_handleBy_nil ?_
    obtain ⟨_, _, _, oe, vs, T, oT, ts', he, hz, hd, h1, _⟩ := id fl
    unfold PySem.passOn
    refine wpAny_bind (wpAny_field he hd h1 ?_)
    rw [if_neg (show ¬ ((Value.ref T == Value.none) = true) from by simp)]
    have fin : wpAny (model X.prog X.w) X.A (setFlight (.ref a) X.env.frame) (fun _ s4 => wpAny (model X.prog X.w) X.A (throw (.ref a) : Sem Flow) (SP X pins D) X.xe s4) X.xe s' := by
      rw [hf]
      refine HandSPX.setFlight_upZ fl fun h4 hh4 up4 => wpAny_throw (tk _ _ ?_)
      exact ⟨a, B, sI, pins, σ, H, cls, d, rfl, J, nb, up.trans up4, .inr (.inr (by rw [hs]; exact hh4)), na, os, ag, w⟩
    first
      | exact wpAny_bind (wpAny_pure (wpAny_bind fin))
      | exact wpAny_bind fin
  | @cons t cs ts b₀ suite pos' hds2 l2 ht hsu r ih =>
    intro w s' fl up os ag
    obtain ⟨b, hb1, hyes, hno⟩ := w
    have ok := J.ok
    have J3 : Inv X pins σ H s' := J.landed nb fl.1 up os ag
    have out : ∀ {h : Heap} {o : Obj} {vs : Array Value}, h.FunFrames B (X.env :: X.outer) → h.get? a = some o → o.data = .fields vs → a ∉ frs (X.env :: X.outer) := fun {h o vs} ff e dd hm => by
      obtain ⟨_, o', e', hnf⟩ := ff.mem hm
      rw [e] at e'
      cases e'
      exact hnf _ dd
    obtain ⟨oe3, vs3, he3, hz3, hd3⟩ := fl.there
    have nfr := out fl.2.2.1 he3 hd3
    have nL : a ≠ X.env.locals := fun z => nfr (List.mem_filterMap.mpr ⟨X.env, List.mem_cons_self, by rw [hf, z]⟩)
    have nF : a ∉ X.fs := fun hm => by
      obtain ⟨e, he, q⟩ := List.mem_filterMap.mp hm
      exact nfr (List.mem_filterMap.mpr ⟨e, List.mem_cons_of_mem _ he, q⟩)
    have S3 := J3.suite he3 hd3 na nL nF
    have LT : PySem.W.Looks (model X.prog X.w) s'.heap (typeOf (.ref a)) cls := fun A Q E s k q => wpAny_typeOf_ref (k _ _ he3) (by rw [hz3.1]; exact q)
    refine wpAny_handleBy_cons (codeAny_handlers_test ?_) (by intro q; cases q)
    refine test_run S3 ht LT hb1 fun h4 kp => ?_
    have fl4 : HandSPX.FlyingZ B (X.env :: X.outer) a (Zc cls d) h4 := flyZ_keeps fl kp
    have up4 : sI.heap.UpToSlots h4 := up.trans (Heap.UpToSlots.of_keeps kp)
    cases b with
    | false =>
      show wpAny _ X.A (handleBy (.ref a) X.env hds2) _ _ _
      exact ih (hno rfl) { s' with heap := h4 } fl4 up4 os ag
    | true =>
      refine codeAny_handlers_suite_as ?_
      refine HandSPX.lands_againZ (s := { s' with heap := h4 }) fl4 fun h5 fl5 up5 => ?_
      have J5 : Inv X pins σ H { s' with heap := h5 } := J.landed nb fl5.1 (up4.trans up5) os ag
      obtain ⟨oe5, vs5, he5, hz5, hd5⟩ := fl5.there
      have S5 := J5.suite he5 hd5 na nL nF
      refine store_ok (X := X.suite a ((a, oe5) :: (X.pn ++ pins))) (v := .ref a) S5 hN hi (.inl hln) rfl (fun s6 S6 => ?_) (.inr hln)
      refine wpAny_mono ((hsu a oe5 cls d (X.pn ++ pins) hz5 ⟨_, hd5⟩).run [] s6 _ H _ S6 (hyes rfl a na)) (fun f s7 hsp => ?_) (fun _ _ z => False.elim z)
      have goes : ∀ {σ7 : L2.St} {H7 : Hp} {Q : Shared → Prop}, Inv (X.suite a ((a, oe5) :: (X.pn ++ pins))) [] σ7 H7 s7 → (∀ s8, Inv X pins (σ7.set i none) H7 s8 → Q s8) →
          wpAny (model X.prog X.w) X.A (do bindName X.env n .none; unbindBehindTheSuite X.env n pos') (fun _ s8 => Q s8) X.xe s7 := fun {σ7 H7 Q} S7 hq => gone_ok (S7.unsuite ok) hN hi hln hq
      cases f with
      | next =>
        obtain ⟨σ7, H7, S7, q7⟩ := hsp
        exact goes S7 fun s8 J8 => ⟨_, _, J8, q7⟩
      | brk =>
        obtain ⟨σ7, H7, S7, q7⟩ := hsp
        exact goes S7 fun s8 J8 => ⟨_, _, J8, q7⟩
      | cont =>
        obtain ⟨σ7, H7, S7, q7⟩ := hsp
        exact goes S7 fun s8 J8 => ⟨_, _, J8, q7⟩
      | ret u =>
        obtain ⟨v7, σ7, H7, S7, r7, q7⟩ := hsp
        exact goes S7 fun s8 J8 => ⟨_, _, _, J8, r7, q7⟩
theorem ps_try_asN (hs : X.stack = X.env :: X.outer) (hf : X.env.frame = some X.env.locals) (hN : X.N.Nodup) (hi : X.N[i]? = some n) (hln : X.env.kindOf n = some .local) (tk : Takes X Wout)
    (hb : ∀ (W : WX) (pn : List (Addr × Obj)) (xe : Value → Shared → Prop), Takes (X.tr pn xe) W → PassesOwn (model X.prog X.w) X.A X.env xe → PSs (X.tr pn xe) body (tb W))
    (hh : HdsAs X n (h₀ :: hds) l) : PS X (.Try body (h₀ :: hds) [] [] pos) (fun D σ H => tb (wAsN X.K i Wout D l) D σ H) := by
  refine ⟨fun pins s σ H D I h => ?_⟩
  have ok := I.ok
  have hfr : X.A.frames = some (X.env :: X.outer) := by rw [ok.frames, hs]
  refine wpAny_Try_except ?_
  refine wpAny_mono ((hb (wAsN X.K i Wout D l) (X.pn ++ pins) (fun e s₁ => wpAny (model X.prog X.w) X.A (noteFrame e X.env) (fun _ s₂ => wpAny (model X.prog X.w) X.A (setFlight e none) (fun _ s₃ =>
    wpAny (model X.prog X.w) X.A (handleBy e X.env (h₀ :: hds)) (SP X pins D) X.xe s₃) X.xe s₂) X.xe s₁) (fun u s' xx => ?_) PassesOwn.looking).run [] s σ H D (I.toTry _) h) (fun f s1 hsp => ?_) (fun e s1 he => he)
  · obtain ⟨a, B, sI, pins', σ', H', cls, d, rfl, J', nb, up, sky, na, os, ag, w⟩ := xx
    rw [show (X.tr (X.pn ++ pins) _).stack = X.env :: X.outer from hs] at sky
    show wpAny (model X.prog X.w) X.A (noteFrame (.ref a) X.env) _ _ _
    refine Sky.land Zc.steady hfr hf sky fun h3 fl3 up3 => ?_
    exact hds_run hs hf hN hi hln tk (J'.ofTry ok) nb na hh w { s' with heap := h3 } fl3 (up.trans up3) os ag
  · cases f with
    | next =>
      obtain ⟨σ', H', J', q⟩ := hsp
      exact wpAny_execs_nil ⟨σ', H', J'.ofTry ok, q⟩
    | brk =>
      obtain ⟨σ', H', J', q⟩ := hsp
      exact ⟨σ', H', J'.ofTry ok, q⟩
    | cont =>
      obtain ⟨σ', H', J', q⟩ := hsp
      exact ⟨σ', H', J'.ofTry ok, q⟩
    | ret u =>
      obtain ⟨v, σ', H', J', r, q⟩ := hsp
      exact ⟨v, σ', H', J'.ofTry ok, r, q⟩
end
/-! ### the head by facts: Bools over what the top has written -/
theorem funOf {K : PySem.W.Frag} {x qual : Str} {st : Stmt} {f : Addr} {fd : FuncData} (F : FunD K x qual (defArgs st) (defBody st) (defScope st) [] [] f fd) : Fun K x qual st f fd := by
  obtain ⟨oc, od, dV, kV, doc, pm, an, cdv, ct, osl, e, lk, hcd, hd, _⟩ := F.ex
  have hn : dV = .none := by
    rcases hd with ⟨_, z⟩ | ⟨z, _⟩
    · exact z
    · exact absurd rfl z
  subst hn
  exact ⟨⟨oc, od, kV, doc, pm, an, cdv, ct, osl, e, lk, hcd⟩, F.kp⟩
def dOf (a : Str × Option Str) (nm q : Str) (st : Stmt) (dfl : List He.Dv) (kwd : List (Str × He.Dv)) : He.DefD := ⟨a, nm, q, defArgs st, defBody st, defScope st, dfl, kwd⟩
def frN (n : Nat) (k : Nat → Bool) : Bool := match n with
  | 0 => k 0
  | m + 1 => k (m + 1)
theorem frN_eq (n : Nat) (k : Nat → Bool) : frN n k = k n := by
  cases n <;> rfl
def frL : List Addr → (List Addr → Bool) → Bool
  | [], k => k []
  | a :: r, k => frN a fun a => frL r fun r => k (a :: r)
theorem frL_eq : ∀ (l : List Addr) (k : List Addr → Bool), frL l k = k l
  | [], _ => rfl
  | a :: r, k => by
    show frN a (fun a => frL r fun r => k (a :: r)) = _
    rw [frN_eq, frL_eq r]
def isNw (nw : String) : List (Option Value) → Bool
  | [_, _, _, _, some (.builtin z), _] => decide (z = nw)
  | _ => false
theorem isNw_ok {nw : String} {l : List (Option Value)} (h : isNw nw l = true) : ∃ k0 k1 k2 k3 k5 : Option Value, l = [k0, k1, k2, k3, some (.builtin nw), k5] := by
  unfold isNw at h
  split at h
  · have e := of_decide_eq_true h
    subst e
    exact ⟨_, _, _, _, _, rfl⟩
  · cases h
abbrev excT (B : String) : List Value := [.type B, .type "Exception", .type "BaseException", .type "object"]
/-- a class of refusals at C under the class at CB, which stands over the built-in B -/
def oexB (K : PySem.W.Frag) (C CB : Addr) (B nw : String) : Bool := (match K.lookup C with
  | some ⟨.type t, _, .cls cd, sl⟩ => decide (t = "type") && (decide (cd.mro = .ref C :: .ref CB :: excT B) && (cd.hasDict && (!cd.hasDel && isNw nw sl.toList)))
  | _ => false) && (He.eqO (PySem.W.findIn K (.ref C) "__setattr__") (some (some (.builtin "object.__setattr__"))) && (decide (PySem.W.subIn K (.ref C) (.type "BaseException") = some true) && (decide (PySem.W.typeIn K (.ref C) = some (.type "type")) && PySem.W.keepIn K (.ref C))))
theorem oexB_ok {K : PySem.W.Frag} {C CB : Addr} {B nw it : String} (FB : ExcBaseFacts B nw it (excT B)) (S : ∀ self : Value, refuseLoop self "__setattr__" (excT B) = pure ()) (hob : (excT B).contains (.type "object") = true) (h : oexB K C CB B nw = true) : OexG K C := by
  obtain ⟨h1, h⟩ := He.ba h
  obtain ⟨h2, h⟩ := He.ba h
  obtain ⟨h3, h⟩ := He.ba h
  obtain ⟨h4, h5⟩ := He.ba h
  refine ⟨?_, He.eqO_ok h2, of_decide_eq_true h3, of_decide_eq_true h4, h5⟩
  cases q : K.lookup C with
  | none =>
    rw [q] at h1
    cases h1
  | some o =>
    obtain ⟨oc, od, dt, osl⟩ := o
    rw [q] at h1
    cases oc with
    | type t =>
      cases dt with
      | cls cd =>
        obtain ⟨n1, n2, n3, n4, n5, n6, n7, n8, n9, n10, n11⟩ := cd
        obtain ⟨a1, h1⟩ := He.ba h1
        obtain ⟨a2, h1⟩ := He.ba h1
        obtain ⟨a3, h1⟩ := He.ba h1
        obtain ⟨a4, a5⟩ := He.ba h1
        have e1 : t = "type" := of_decide_eq_true a1
        have e2 : n3 = .ref C :: .ref CB :: excT B := of_decide_eq_true a2
        have e3 : n6 = true := a3
        have e4 : n11 = false := by
          cases n11 with
          | false => rfl
          | true => cases a4
        obtain ⟨sl⟩ := osl
        obtain ⟨k0, k1, k2, k3, k5, e5⟩ := isNw_ok a5
        have e6 : sl = [k0, k1, k2, k3, some (.builtin nw), k5] := e5
        subst e1 e2 e3 e4 e6
        exact ⟨_, _, _, _, _, _, _, _, _, _, _, _, _, _, _, B, _, _, _, FB, rfl, fun Y => by rw [List.contains_cons]; rfl, hob, fun self => by rw [refuseLoop_ref, refuseLoop_ref]; exact S self⟩
      | _ => cases h1
    | _ => cases dt <;> cases h1
def cfnB (K : PySem.W.Frag) (C g : Addr) : Bool := PySem.W.readsIn K C (.type "type") && (He.eqO (PySem.W.specialIn K (.ref C) "__getattribute__") (some (some (.builtin "type.__getattribute__"))) && ((match PySem.W.findCls K (.ref C) (.type "type") "__init__" with
  | some (.val (.ref a)) => decide (a = g)
  | _ => false) && PySem.W.keepIn K (.ref g)))
theorem cfnB_ok {K : PySem.W.Frag} {C g : Addr} (h : cfnB K C g = true) : CFn K C "__init__" g := by
  obtain ⟨h1, h⟩ := He.ba h
  obtain ⟨h2, h⟩ := He.ba h
  obtain ⟨h3, h4⟩ := He.ba h
  refine ⟨h1, He.eqO_ok h2, ?_, h4⟩
  split at h3
  · rename_i a e
    have e2 : a = g := of_decide_eq_true h3
    rw [e, e2]
  · cases h3
/-- all that is looked at of the class x, under b, with these fields -/
def leafB (K : PySem.W.Frag) (x b : Str) (B nw : String) (fl : List Str) : Bool := frN (He.ga K x) fun C => frN (He.ga K b) fun CB => oexB K C CB B nw && (cfnB K CB (He.ma K CB "__init__") && (He.eqO (PySem.W.findIn K (.ref C) "__init__") (some (some (.ref (He.ma K C "__init__")))) &&
  (decide (PySem.W.typeIn K (.ref (He.ma K C "__init__")) = some (.type "function")) && (("word" : Str) :: fl).all fun f => He.eqO (PySem.W.findIn K (.ref C) f) (some none))))
structure LeafK (K : PySem.W.Frag) (x b : Str) (fl : List Str) : Prop where
  T : OexG K (He.ga K x)
  B : CFn K (He.ga K b) "__init__" (He.ma K (He.ga K b) "__init__")
  i : PySem.W.findIn K (.ref (He.ga K x)) "__init__" = some (some (.ref (He.ma K (He.ga K x) "__init__")))
  t : PySem.W.typeIn K (.ref (He.ma K (He.ga K x) "__init__")) = some (.type "function")
  n : ∀ f ∈ ("word" : Str) :: fl, PySem.W.findIn K (.ref (He.ga K x)) f = some none
theorem leafB_ok {K : PySem.W.Frag} {x b : Str} {B nw it : String} {fl : List Str} (FB : ExcBaseFacts B nw it (excT B)) (S : ∀ self : Value, refuseLoop self "__setattr__" (excT B) = pure ()) (hob : (excT B).contains (.type "object") = true) (h : leafB K x b B nw fl = true) : LeafK K x b fl := by
  unfold leafB at h
  rw [frN_eq, frN_eq] at h
  obtain ⟨h1, h⟩ := He.ba h
  obtain ⟨h2, h⟩ := He.ba h
  obtain ⟨h3, h⟩ := He.ba h
  obtain ⟨h4, h5⟩ := He.ba h
  exact ⟨oexB_ok FB S hob h1, cfnB_ok h2, He.eqO_ok h3, of_decide_eq_true h4, fun f hf => He.eqO_ok (List.all_eq_true.mp h5 f hf)⟩
theorem leafV {K : PySem.W.Frag} {x b : Str} {fl : List Str} (h : leafB K x b "ValueError" "ValueError.__new__" fl = true) : LeafK K x b fl := leafB_ok F.excBase_ValueError F.store_ValueError.passes (by decide +kernel) h
theorem leafL {K : PySem.W.Frag} {x b : Str} {fl : List Str} (h : leafB K x b "LookupError" "LookupError.__new__" fl = true) : LeafK K x b fl := leafB_ok F.excBase_LookupError F.store_LookupError.passes (by decide +kernel) h
theorem leafR {K : PySem.W.Frag} {x b : Str} {fl : List Str} (h : leafB K x b "RuntimeError" "RuntimeError.__new__" fl = true) : LeafK K x b fl := leafB_ok F.excBase_RuntimeError F.store_RuntimeError.passes (by decide +kernel) h
/-! ### the Hook: what the top's names reach in n steps, and the statics (which readsIn asks for) -/
def wide (g : Addr → Option Obj) (n : Nat) : List Addr := PySem.cStatics :: He.asD g n
theorem tabs_out {g : Addr → Option Obj} {tf : List He.Defn} {as : List Addr} (h : He.tabsB g tf (He.frT g as) = true) (p : He.Defn) (hp : p ∈ tf) :
    PySem.W.codeHdIn (He.frT g as) (He.cT (He.frT g as) p).1 (He.cT (He.frT g as) p).2 = true ∧ (He.frT g as).lookup (He.cT (He.frT g as) p).2 = none ∧ g (He.cT (He.frT g as) p).2 = some { cls := .none, data := .fields #[] } := by
  have z := List.all_eq_true.mp h p hp
  obtain ⟨z1, z2⟩ := He.ba z
  generalize (He.cT (He.frT g as) p).2 = t at z1 z2 ⊢
  cases e : g t with
  | none =>
    rw [e] at z2
    cases z2
  | some u =>
    rw [e] at z2
    exact ⟨z1, He.frT_none e z2, congrArg some (He.emptyTab_eq z2)⟩
def lookS (n : Nat) (fa : List He.Fa) (fn : List He.DefD) (tf : List He.Defn) (ex : PySem.W.Frag → Bool) (g : Addr → Option Obj) : He.AlX :=
  (He.obsT fa fn [] (He.frT g (wide g n)), ex (He.frT g (wide g n)) && He.tabsB g tf (He.frT g (wide g n)))
theorem lookS_says {n : Nat} {fa : List He.Fa} {fn : List He.DefD} {tf : List He.Defn} {ex : PySem.W.Frag → Bool} {w : World} {h : Heap} (e : lookS n fa fn tf ex h.get? = He.valX fn [] w) : He.SaysX fa fn [] tf ex w h (He.frT h.get? (wide h.get? n)) := by
  have a : _ = He.valT fn [] w := congrArg Prod.fst e
  obtain ⟨b, c⟩ := He.ba (show _ = true from congrArg Prod.snd e)
  exact { t := a, more := b, hd := fun p hp => (tabs_out c p hp).1, out := fun p hp => (tabs_out c p hp).2.1, empty := fun p hp => (tabs_out c p hp).2.2 }
def hookS (n : Nat) (fa : List He.Fa) (fn : List He.DefD) (tf : List He.Defn) (ex : PySem.W.Frag → Bool) : PySem.W.Hook :=
  { α := He.AlX, obs := fun s => lookS n fa fn tf ex s.heap.get?, val := He.valX fn [], says := fun w h => ∃ K : PySem.W.Frag, K.In h ∧ He.SaysX fa fn [] tf ex w h K, of := fun w s e => ⟨_, He.frT_in, lookS_says e⟩,
    keeps := fun w h h' y k => by
      obtain ⟨K, i, c⟩ := y
      exact ⟨K, PySem.W.Frag.In.keeps i k, { t := c.t, more := c.more, hd := c.hd, out := c.out, empty := fun p hp => k _ _ (c.empty p hp) }⟩ }
theorem lookS_eq {n : Nat} {fa : List He.Fa} {fn : List He.DefD} {tf : List He.Defn} {ex : PySem.W.Frag → Bool} (s : PySem.W.SharedT) : lookS n fa fn tf ex (HandSHeadRun.getT s) = (hookS n fa fn tf ex).obs s.abs := by
  rw [show HandSHeadRun.getT s = s.abs.heap.get? from funext (HandSHeadRun.getT_eq s)]
  rfl
/-! ### t.index(n), t a tuple of ints -/
section
variable {X : Cx}
theorem mt_tup_indexI : MtR X "tuple.index" (fun x xs H Q => ∃ (p : Addr) (ys : List Int) (n : Int) (j : Nat), x = .ref p ∧ xs = [.int n] ∧ SqT X.K H p (ys.map V.int) ∧ ys[j]? = some n ∧ (∀ m, m < j → ys[m]? ≠ some n) ∧ Q (.int (j : Nat)) H) := by
  intro pins s σ H x xs v us Q I rx rs h
  obtain ⟨p, ys, n, j, ex, exs, hT, hj, hb, q⟩ := h
  subst ex exs
  cases rx
  obtain ⟨un, eu, tu, etu⟩ := vals1 rs
  subst eu etu
  obtain ⟨its, r, ⟨⟨oc, od, odt, osl⟩, hob, hcl, ep, hdt⟩, hz⟩ := I.tuple hT
  simp only at hcl hdt
  subst hcl hdt
  have hs : its.toArray.size = ys.length := by
    rw [List.size_toArray, ← r.length, List.length_map]
  have hlt : j < ys.length := (List.getElem?_eq_some_iff.mp hj).1
  have what : ∀ (m : Nat) (hm : m < its.toArray.size), ∃ (y : Int) (ty : Tok), ys[m]? = some y ∧ its.toArray[m] = Value.int y ty := fun m hm => by
    have hm2 : m < ys.length := hs ▸ hm
    obtain ⟨wv, hw, ty, hty⟩ := r.get (i := m) (x := V.int ys[m]) (by simp [hm2])
    have e1 := (List.getElem?_eq_some_iff.mp hw).2
    exact ⟨ys[m], ty, List.getElem?_eq_getElem hm2, by rw [← hty, ← e1]; simp⟩
  refine call_meets PySem.F.slot_tuple_index ⟨_, hob, rfl⟩ PySem.F.entry_tuple_index (PySem.F.args_tuple_index_2 _ _)
    (TI.tuple_indexAt p its.toArray ep od osl (.int n tu) (eqU (.int n)) j (by rw [hs]; exact hlt) ?_ fun m hm hmj => ?_)
    ⟨hob, fun wv hw => mem_eqAt (x := .int n) ⟨tu, rfl⟩ rfl r (by rw [List.all_map]; exact List.all_eq_true.mpr fun _ _ => rfl) wv (by simpa using hw), ⟨.int (j : Nat), H, I.tok _, ⟨_, rfl⟩, q⟩⟩
  · obtain ⟨y, ty, h1, h2⟩ := what j (by rw [hs]; exact hlt)
    rw [hj] at h1
    obtain rfl := Option.some.inj h1
    rw [h2]
    show decide (n = n) = true
    exact decide_eq_true rfl
  · obtain ⟨y, ty, h1, h2⟩ := what m hm
    rw [h2]
    show decide (y = n) = false
    exact decide_eq_false fun z => hb m hmj (by rw [h1, z])
end
/-! ### tuples that are known to have no dict of their own: written down as they stand -/
def NoD (o : Obj) : Prop := o.cls = .type "tuple" ∧ o.dict = none
def tTupF (t : TA) : TE := fun σ H Q => t σ H fun xs H1 => xs.length ≤ sizeLine ∧ ∀ (p : Addr) (o : Obj), H1 p = none → NoD o → Q (.ref p) (upd H1 p (.frz o (.tup xs)))
def tBMF (r : V → List V → Hp → VK → Prop) (to : TE) (t : TA) : TE := fun σ H Q => to σ H fun x H1 => (∃ (p : Addr) (o : Obj) (ys : List V), x = .ref p ∧ H1 p = some (.frz o (.tup ys)) ∧ NoD o) ∧ t σ H1 fun xs H2 => r x xs H2 Q
section
variable {X : Cx} {e : Expr} {es : List Expr} {t : TA} {pos : Pos}
theorem pe_tupF {x1} (h : PA X es t) : PE X (.Tuple es x1 pos) (tTupF t) := ⟨fun pins s σ H Q I hq => by
  refine wpAny_Tuple_spliced (thn (h.run pos pins s σ H _ I hq) fun us s1 ⟨xs, H1, I1, r, z, q⟩ => ⟨r.length ▸ z, ?_⟩)
  have fresh := I1.hok.fresh (Nat.le_refl s1.heap.objs.size)
  refine ⟨.ref s1.heap.objs.size, _, I1.laid (o := .frz _ (.tup xs)) (t' := s1.toks) (fun b u e => Heap.get?_push_of_some _ e) (Nat.le_refl _) ⟨Heap.get?_push_size _ rfl, z, us, r, _, Heap.get?_push_size _ rfl, rfl, _, rfl⟩, rfl, q _ _ fresh ⟨rfl, rfl⟩⟩⟩
theorem pe_bmF {o : Expr} {to : TE} {name : Str} {apos : Pos} {id : String} {r : V → List V → Hp → VK → Prop} (slot : Slot "tuple" name id) (hty : typeOf (.builtin id) = pure (.type "method_descriptor")) (hm : MtR X id r) (ho : PE X o to) (ha : PA X (e :: es) t)
    (hb : attributeBase o name X.env (eval o X.env) = eval o X.env := by rfl) (hfw : ((backTo pos (starEach (e :: es) X.env)).all (fun x => !x.1) && (backToKw pos (keywordEach [] X.env)).all (fun x => x.1.isSome) && decide ((e :: es).length + ([] : List Keyword).length + (if ([] : List Keyword).isEmpty then 0 else 1) < 30)) = true := by rfl)
    (hln : (apos.endLine == pos.line) = true := by rfl) (hst : starEach (e :: es) X.env = (false, eval e X.env) :: starEach es X.env := by rfl) (hpl : (backTo pos (starEach es X.env)).any (·.1) = false := by rfl) :
    PE X (.Call (.Attribute o name apos) (e :: es) [] pos) (tBMF r to t) := ⟨fun pins s σ H Q I h => by
  refine wpAny_Call_method_late hb hfw hln rfl (thn (ho.run pins s σ H _ I h) fun v s1 ⟨x, H1, I1, r1, ⟨p, ob, ys, ex, hp, hc, hd⟩, q1⟩ => ?_)
  subst ex
  cases r1
  obtain ⟨hob, _⟩ := I1.hok p _ hp
  refine ⟨"tuple", id, PySem.F.plainAttrs_tuple, slot, hty, ⟨ob, hob, hc⟩, fun a ea => ?_, ?_⟩
  · cases ea
    exact ⟨ob, hob, hd⟩
  have run := ha.run pos pins s1 σ H1 _ I1 q1
  rw [hst] at run ⊢
  refine Calls.callWith_builtin ?_ (Calls.evalArgs_plain (thn run fun us s2 ⟨vs, H2, I2, r2, q2⟩ => hm pins s2 σ H2 (.ref p) vs (.ref p) us Q I2 rfl r2 q2))
  show (false || (backTo pos (starEach es X.env)).any (·.1)) = false
  rw [hpl]
  rfl⟩
end
/-! ### _law_pull -/
abbrev sPull : Stmt := topS 61
theorem scPull : FnScope ["_law_bag_here", "_law_size", "_law_got", "_law_cell"] ["_law_bag_here", "_law_size"] (defScope sPull) := ⟨rfl, rfl, rfl, by decide +kernel, rfl, by decide +kernel, by decide +kernel⟩
def spPull : Sp := fun vs H Q _ => ∃ (b c : Addr) (size : Int), vs = [.ref b, .int size] ∧ Bag H b c ∧ 0 < size ∧ size.natAbs < 2 ^ 200 ∧
  ∀ H' r, Off b H H' → Bag H' b c → 0 ≤ r → r < size → Q (.int r) H'
section
variable {P : Program} {w : World} {K : PySem.W.Frag} {mg : Str → Option Value} {base : Heap}
theorem ok_pull {f : Addr} {fd : FuncData} {k : Nat} (F : Fun K "_law_pull" "_law_pull" sPull f fd) (ml : mg "len" = none) : FnOk P w K mg base CX0 (k + 1) f fd ["_law_bag_here", "_law_size"] spPull := by
  refine F.ok scPull (fun vs H Q E h => ?_) (fun cdv A outer s H vs Q E hr h => ?_)
  · obtain ⟨b, c, size, rfl, _⟩ := h
    rfl
  · obtain ⟨b, c, size, rfl, ⟨cells, at', rest, seed, hb, hc, ha, hr0, hs0, hs1, hcb⟩, hz, hzb, q⟩ := h
    refine ⟨_, pss_cons (ps_if (pt_cmpR op_ge (pe_ix ix_list (pv 0) pe_int (fun _ _ => rfl)) (pv 1) (nomark _))
        (pss_cons (ps_set (i := 2) scPull.nd rfl (.inl rfl) (pe_op op_mod (pe_ix ix_list (pv 0) pe_int (fun _ _ => rfl)) (pv 1)))
        (pss_cons (ps_asg (pe_op op_fdivW (pe_ix ix_list (pv 0) pe_int (fun _ _ => rfl)) (pv 1)) (pg_sub (pv 0) pe_int set_list))
        (pss_one (ps_ret (pv 2))))) pss_nil)
      (pss_cons (ps_set (i := 3) scPull.nd rfl (.inl rfl) pe_int)
      (pss_cons (ps_if (pt_cmpR op_lt (pe_ix ix_list (pv 0) pe_int (fun _ _ => rfl)) (pe_callB call_len_seq (by rfl) ml PySem.boot_len (pa_cons (pe_ix ix_list (pv 0) pe_int (fun _ _ => rfl)) pa_nil)) (nomark _))
        (pss_one (ps_set (i := 3) scPull.nd rfl (.inl rfl) (pe_ix ix_list (pe_ix ix_list (pv 0) pe_int (fun _ _ => rfl)) (pe_ix ix_list (pv 0) pe_int (fun _ _ => rfl)) (fun _ _ => rfl)))) pss_nil)
      (pss_cons (ps_asg (pe_op op_add (pe_ix ix_list (pv 0) pe_int (fun _ _ => rfl)) pe_int) (pg_sub (pv 0) pe_int set_list))
      (pss_cons (ps_if (pt_cmpR op_ge (pv 3) (pe_op op_pow pe_int pe_int) (nomark _))
        (pss_cons (ps_asg (pe_op op_fdivW (pv 3) (pv 1)) (pg_sub (pv 0) pe_int set_list))
        (pss_one (ps_ret (pe_op op_mod (pv 3) (pv 1))))) pss_nil)
      (pss_cons (ps_asg (pe_op op_mod (pe_op op_add (pe_op op_add (pe_op op_add (pe_op op_pow (pe_ix ix_list (pv 0) pe_int (fun _ _ => rfl)) pe_int) (pe_op op_mul pe_int (pe_ix ix_list (pv 0) pe_int (fun _ _ => rfl)))) (pe_op op_mod (pv 3) pe_int)) pe_int) pe_int) (pg_sub (pv 0) pe_int set_list))
      (pss_one (ps_ret (pe_op op_mod (pe_op op_add (pe_op op_fdivW (pe_ix ix_list (pv 0) pe_int (fun _ _ => rfl)) pe_int) (pv 3)) (pv 1))))))))), ?_⟩
    have hd : CDivW rest size := wide_div (b := 200) hz hzb (by decide) (by decide)
    -- if bag[2] >= size
    refine ⟨.ref b, rfl, b, _, 2, .int rest, rfl, rfl, .inl (.inl hb), atI_nat (j := 2) rfl, .int size, rfl, _, _, rfl, rfl, _, rfl, ite2 (fun e => ?_) (fun e => ?_)⟩
    · refine ⟨.ref b, rfl, b, _, 2, .int rest, rfl, rfl, .inl (.inl hb), atI_nat (j := 2) rfl, .int size, rfl, _, _, rfl, rfl, hz, ?_⟩
      refine ⟨.ref b, rfl, b, _, 2, .int rest, rfl, rfl, .inl (.inl hb), atI_nat (j := 2) rfl, .int size, rfl, _, _, rfl, rfl, hd, ?_⟩
      refine ⟨.ref b, rfl, b, _, 2, 2, rfl, rfl, hb, rfl, ?_⟩
      refine ⟨.int (rest % size), rfl, q _ _ Off.upd ⟨cells, at', rest / size, seed, upd_same, ?_, ha, Int.ediv_nonneg hr0 (by omega), hs0, hs1, hcb⟩ (Int.emod_nonneg _ (by omega)) (Int.emod_lt_of_pos _ hz)⟩
      rw [upd_ne hcb]
      exact hc
    · -- cell = 0; if bag[1] < len(bag[0])
      obtain ⟨j, rfl⟩ := Int.eq_ofNat_of_zero_le ha
      refine ⟨.ref b, rfl, b, _, 1, .int (j : Nat), rfl, rfl, .inl (.inl hb), atI_nat (j := 1) rfl, .ref b, rfl, b, _, 0, .ref c, rfl, rfl, .inl (.inl hb), atI_nat (j := 0) rfl, c, _, rfl, .inl (.inl (.inl hc)), _, _, rfl, rfl, _, rfl, ite2 (fun e2 => ?_) (fun e2 => ?_)⟩
      · have hl := of_decide_eq_true e2
        rw [List.length_map] at hl
        have hj : j < cells.length := by omega
        refine ⟨.ref b, rfl, b, _, 0, .ref c, rfl, rfl, .inl (.inl hb), atI_nat (j := 0) rfl, .ref b, rfl, b, _, 1, .int (j : Nat), rfl, rfl, .inl (.inl hb), atI_nat (j := 1) rfl, c, _, _, .int cells[j], rfl, rfl, .inl (.inl hc), atI_nat (j := j) (by rw [List.getElem?_map, List.getElem?_eq_getElem hj]; rfl), ?_⟩
        obtain ⟨cell, hcell⟩ : ∃ cell : Int, cell = cells[j] := ⟨_, rfl⟩
        rw [← hcell]
        -- bag[1] = bag[1] + 1
        refine ⟨.ref b, rfl, b, _, 1, .int (j : Nat), rfl, rfl, .inl (.inl hb), atI_nat (j := 1) rfl, _, _, rfl, rfl, ?_⟩
        refine ⟨.ref b, rfl, b, _, 1, 1, rfl, rfl, hb, rfl, ?_⟩
        have hb1 : (upd H b (.lst [.ref c, .int ((j : Int) + 1), .int rest, .int seed])) b = some (.lst [.ref c, .int ((j : Int) + 1), .int rest, .int seed]) := upd_same
        have hc1 : (upd H b (.lst [.ref c, .int ((j : Int) + 1), .int rest, .int seed])) c = some (.lst (cells.map V.int)) := by
          rw [upd_ne hcb]
          exact hc
        -- if cell >= 10 ** 18
        refine ⟨.int cell, rfl, 10, 18, rfl, rfl, ⟨by decide, by decide, by decide⟩, _, _, rfl, rfl, _, rfl, ite2 (fun e3 => ?_) (fun e3 => ?_)⟩
        · have h18 : (10 : Int) ^ (18 : Int).toNat ≤ cell := of_decide_eq_true e3
          have h0 : (0 : Int) ≤ 10 ^ (18 : Int).toNat := by decide
          refine ⟨.int cell, rfl, .int size, rfl, _, _, rfl, rfl, wide_div (b := 200) hz hzb (by decide) (by decide), ?_⟩
          refine ⟨.ref b, rfl, b, _, 2, 2, rfl, rfl, hb1, rfl, ?_⟩
          refine ⟨.int cell, rfl, .int size, rfl, _, _, rfl, rfl, hz, ?_⟩
          refine q _ _ (Off.upd.trans Off.upd) ⟨cells, (j : Int) + 1, cell / size, seed, upd_same, ?_, by omega, Int.ediv_nonneg (by omega) (by omega), hs0, hs1, hcb⟩ (Int.emod_nonneg _ (by omega)) (Int.emod_lt_of_pos _ hz)
          rw [upd_ne hcb]
          exact hc1
        · -- bag[3] = (bag[3] ** 5 + 69069 * bag[1] + cell % 1000003 + 7) % 2147483629
          have hp : CPow seed 5 := ⟨by decide, by decide, by omega⟩
          refine ⟨.ref b, rfl, b, _, 3, .int seed, rfl, rfl, .inl (.inl hb1), atI_nat (j := 3) rfl, _, _, rfl, rfl, hp, ?_⟩
          refine ⟨.ref b, rfl, b, _, 1, .int ((j : Int) + 1), rfl, rfl, .inl (.inl hb1), atI_nat (j := 1) rfl, _, _, rfl, rfl, .inl ⟨by decide, by decide⟩, _, _, rfl, rfl, ?_⟩
          refine ⟨.int cell, rfl, _, _, rfl, rfl, (show (0 : Int) < 1000003 by decide), _, _, rfl, rfl, _, _, rfl, rfl, _, _, rfl, rfl, (show (0 : Int) < 2147483629 by decide), ?_⟩
          refine ⟨.ref b, rfl, b, _, 3, 3, rfl, rfl, hb1, rfl, ?_⟩
          refine ⟨.ref b, rfl, b, _, 3, _, rfl, rfl, .inl (.inl upd_same), atI_nat (j := 3) rfl, _, _, rfl, rfl, wide_div (b := 200) (by decide) (by decide) (by decide) (by decide), .int cell, rfl, _, _, rfl, rfl, .int size, rfl, _, _, rfl, rfl, hz, ?_⟩
          refine q _ _ (Off.upd.trans Off.upd) ⟨cells, (j : Int) + 1, rest, _, upd_same, ?_, by omega, hr0, Int.emod_nonneg _ (by decide), Int.lt_trans (Int.emod_lt_of_pos _ (by decide)) (by decide), hcb⟩ (Int.emod_nonneg _ (by omega)) (Int.emod_lt_of_pos _ hz)
          rw [upd_ne hcb]
          exact hc1
      · obtain ⟨cell, hcell⟩ : ∃ cell : Int, cell = 0 := ⟨_, rfl⟩
        rw [show (V.int 0) = V.int cell by rw [hcell]]
        -- bag[1] = bag[1] + 1
        refine ⟨.ref b, rfl, b, _, 1, .int (j : Nat), rfl, rfl, .inl (.inl hb), atI_nat (j := 1) rfl, _, _, rfl, rfl, ?_⟩
        refine ⟨.ref b, rfl, b, _, 1, 1, rfl, rfl, hb, rfl, ?_⟩
        have hb1 : (upd H b (.lst [.ref c, .int ((j : Int) + 1), .int rest, .int seed])) b = some (.lst [.ref c, .int ((j : Int) + 1), .int rest, .int seed]) := upd_same
        have hc1 : (upd H b (.lst [.ref c, .int ((j : Int) + 1), .int rest, .int seed])) c = some (.lst (cells.map V.int)) := by
          rw [upd_ne hcb]
          exact hc
        -- if cell >= 10 ** 18
        refine ⟨.int cell, rfl, 10, 18, rfl, rfl, ⟨by decide, by decide, by decide⟩, _, _, rfl, rfl, _, rfl, ite2 (fun e3 => ?_) (fun e3 => ?_)⟩
        · have h18 : (10 : Int) ^ (18 : Int).toNat ≤ cell := of_decide_eq_true e3
          have h0 : (0 : Int) ≤ 10 ^ (18 : Int).toNat := by decide
          refine ⟨.int cell, rfl, .int size, rfl, _, _, rfl, rfl, wide_div (b := 200) hz hzb (by decide) (by decide), ?_⟩
          refine ⟨.ref b, rfl, b, _, 2, 2, rfl, rfl, hb1, rfl, ?_⟩
          refine ⟨.int cell, rfl, .int size, rfl, _, _, rfl, rfl, hz, ?_⟩
          refine q _ _ (Off.upd.trans Off.upd) ⟨cells, (j : Int) + 1, cell / size, seed, upd_same, ?_, by omega, Int.ediv_nonneg (by omega) (by omega), hs0, hs1, hcb⟩ (Int.emod_nonneg _ (by omega)) (Int.emod_lt_of_pos _ hz)
          rw [upd_ne hcb]
          exact hc1
        · -- bag[3] = (bag[3] ** 5 + 69069 * bag[1] + cell % 1000003 + 7) % 2147483629
          have hp : CPow seed 5 := ⟨by decide, by decide, by omega⟩
          refine ⟨.ref b, rfl, b, _, 3, .int seed, rfl, rfl, .inl (.inl hb1), atI_nat (j := 3) rfl, _, _, rfl, rfl, hp, ?_⟩
          refine ⟨.ref b, rfl, b, _, 1, .int ((j : Int) + 1), rfl, rfl, .inl (.inl hb1), atI_nat (j := 1) rfl, _, _, rfl, rfl, .inl ⟨by decide, by decide⟩, _, _, rfl, rfl, ?_⟩
          refine ⟨.int cell, rfl, _, _, rfl, rfl, (show (0 : Int) < 1000003 by decide), _, _, rfl, rfl, _, _, rfl, rfl, _, _, rfl, rfl, (show (0 : Int) < 2147483629 by decide), ?_⟩
          refine ⟨.ref b, rfl, b, _, 3, 3, rfl, rfl, hb1, rfl, ?_⟩
          refine ⟨.ref b, rfl, b, _, 3, _, rfl, rfl, .inl (.inl upd_same), atI_nat (j := 3) rfl, _, _, rfl, rfl, wide_div (b := 200) (by decide) (by decide) (by decide) (by decide), .int cell, rfl, _, _, rfl, rfl, .int size, rfl, _, _, rfl, rfl, hz, ?_⟩
          refine q _ _ (Off.upd.trans Off.upd) ⟨cells, (j : Int) + 1, rest, _, upd_same, ?_, by omega, hr0, Int.emod_nonneg _ (by decide), Int.lt_trans (Int.emod_lt_of_pos _ (by decide)) (by decide), hcb⟩ (Int.emod_nonneg _ (by omega)) (Int.emod_lt_of_pos _ hz)
          rw [upd_ne hcb]
          exact hc1
end
/-! ### _law_bag -/
abbrev sBag : Stmt := topS 60
theorem scBag : FnScope ["_law_script"] ["_law_script"] (defScope sBag) := ⟨rfl, rfl, rfl, by decide +kernel, rfl, by decide +kernel, by decide +kernel⟩
def spBag (K : PySem.W.Frag) : Sp := fun vs H Q _ => ∃ (a : Addr) (ns : List Int), vs = [.ref a] ∧ SqL K H a (ns.map V.int) ∧ ns.length ≤ 63 ∧
  ∀ H' b c, Same H H' → Bag H' b c → H b = none → Q (.ref b) H'
theorem cut_map (ns : List Int) (lo hi : Option Int) : ∃ ms : List Int, cutV (ns.map V.int) lo hi = ms.map V.int ∧ ms.length ≤ ns.length := by
  unfold cutV
  refine ⟨(ns.drop (HT.sIx (ns.map V.int).length 0 lo)).take (HT.sIx (ns.map V.int).length (ns.map V.int).length hi - HT.sIx (ns.map V.int).length 0 lo), ?_, ?_⟩
  · rw [List.map_take, List.map_drop]
  · rw [List.length_take, List.length_drop]
    omega
section
variable {P : Program} {w : World} {K : PySem.W.Frag} {mg : Str → Option Value} {base : Heap}
theorem ok_bag {f : Addr} {fd : FuncData} {k : Nat} (F : Fun K "_law_bag" "_law_bag" sBag f fd) (ml : mg "len" = none) (mli : mg "list" = none) : FnOk P w K mg base CX0 (k + 1) f fd ["_law_script"] (spBag K) := by
  refine F.ok scBag (fun vs H Q E h => ?_) (fun cdv A outer s H vs Q E hr h => ?_)
  · obtain ⟨a, ns, rfl, _⟩ := h
    rfl
  · obtain ⟨a, ns, rfl, hS, hlen, q⟩ := h
    refine ⟨_, pss_one (ps_ret (pe_lst (pa_cons (pe_callTy call_list_of (by rfl) mli (by decide +kernel) (pa_cons (pe_slice sl_list (pv 0) po_none (po_some pe_int)) pa_nil))
      (pa_cons pe_int (pa_cons pe_int (pa_cons (pe_op op_add pe_int (pe_callB call_len_seq (by rfl) ml PySem.boot_len (pa_cons (pe_slice sl_list (pv 0) po_none (po_some pe_int)) pa_nil))) pa_nil)))))), ?_⟩
    obtain ⟨ms, em, lm⟩ := cut_map ns none (some 63)
    refine ⟨.ref a, rfl, 63, rfl, a, _, rfl, hS, fun p np => ?_⟩
    rw [em]
    refine ⟨p, _, rfl, .inl (.inl (.inl upd_same)), fun l nl => ?_⟩
    have s1 : Same H (upd H p (.lst (ms.map V.int))) := same_upd np
    have s2 : Same (upd H p (.lst (ms.map V.int))) (upd (upd H p (.lst (ms.map V.int))) l (.lst (ms.map V.int))) := same_upd nl
    refine ⟨.ref a, rfl, 63, rfl, a, _, rfl, (s1.trans s2).seq hS, fun p2 np2 => ?_⟩
    rw [em]
    have s3 := same_upd (o := .lst (ms.map V.int)) np2
    refine ⟨p2, _, rfl, .inl (.inl (.inl upd_same)), _, _, rfl, rfl, (show (4 : Nat) ≤ sizeLine by decide), fun b nb => ?_⟩
    have s4 := same_upd (o := .lst [.ref l, .int 0, .int 0, .int (9463 + ((ms.map V.int).length : Nat))]) nb
    have hl : (upd (upd (upd (upd H p (.lst (ms.map V.int))) l (.lst (ms.map V.int))) p2 (.lst (ms.map V.int))) b (.lst [.ref l, .int 0, .int 0, .int (9463 + ((ms.map V.int).length : Nat))])) l = some (.lst (ms.map V.int)) := s4 _ _ (s3 _ _ upd_same)
    refine q _ b l (((s1.trans s2).trans s3).trans s4) ⟨ms, 0, 0, _, upd_same, hl, by decide, by decide, ?_, ?_, ?_⟩ (((s1.trans s2).trans s3).free nb)
    · omega
    · rw [List.length_map]
      omega
    · exact ne_of_none (s3 _ _ (upd_same (H := upd H p (.lst (ms.map V.int))) (a := l) (o := .lst (ms.map V.int)))) nb
end
/-! ### _law_of -/
abbrev sOf : Stmt := topS 62
theorem scOf : FnScope ["_law_bag_here", "_law_things"] ["_law_bag_here", "_law_things"] (defScope sOf) := ⟨rfl, rfl, rfl, by decide +kernel, rfl, by decide +kernel, by decide +kernel⟩
def spOf : Sp := fun vs H Q _ => ∃ (b c t : Addr) (xs : List V), vs = [.ref b, .ref t] ∧ Bag H b c ∧ H t = some (.lst xs) ∧ t ≠ b ∧ 0 < xs.length ∧ xs.length ≤ 1000 ∧
  ∀ H' v, Off b H H' → Bag H' b c → v ∈ xs → Q v H'
section
variable {P : Program} {w : World} {K : PySem.W.Frag} {mg : Str → Option Value} {base : Heap}
theorem ok_of {f fP : Addr} {fd fdP : FuncData} {k : Nat} (F : Fun K "_law_of" "_law_of" sOf f fd) (ml : mg "len" = none)
    (FP : Fun K "_law_pull" "_law_pull" sPull fP fdP) (bP : Binds K fdP ["_law_bag_here", "_law_size"] []) (gP : mg "_law_pull" = some (.ref fP)) : FnOk P w K mg base CX0 (k + 2) f fd ["_law_bag_here", "_law_things"] spOf := by
  have GP : FnOk P w K mg base CX0 (k + 1) fP fdP ["_law_bag_here", "_law_size"] spPull := ok_pull FP ml
  refine F.ok scOf (fun vs H Q E h => ?_) (fun cdv A outer s H vs Q E hr h => ?_)
  · obtain ⟨b, c, t, xs, rfl, _⟩ := h
    rfl
  · obtain ⟨b, c, t, xs, rfl, hB, hT, htb, h0, h1, q⟩ := h
    refine ⟨_, pss_one (ps_ret (pe_ix ix_list (pv 1) (pe_call GP hr (by rfl) gP FP.kp bP .nil pass0 (pa_cons (pv 0) (pa_cons (pe_callB call_len_seq (by rfl) ml PySem.boot_len (pa_cons (pv 1) pa_nil)) pa_nil))) (fun _ _ => rfl))), ?_⟩
    refine ⟨.ref t, rfl, .ref b, rfl, .ref t, rfl, t, xs, rfl, .inl (.inl (.inl hT)), b, c, _, rfl, hB, by omega, ?_, fun H' r off bag hr0 hr1 => ?_⟩
    · rw [Int.natAbs_natCast]
      exact Nat.lt_of_le_of_lt h1 (by decide)
    · obtain ⟨n, rfl⟩ := Int.eq_ofNat_of_zero_le hr0
      have hn : n < xs.length := by omega
      refine ⟨t, xs, _, xs[n], rfl, rfl, .inl (.inl (off _ _ htb hT)), atI_nat (List.getElem?_eq_getElem hn), ?_⟩
      exact q _ _ off bag (List.getElem_mem hn)
end
/-! ### _law_like -/
theorem Same.tup {K : PySem.W.Frag} {H H' : Hp} {a : Addr} {xs : List V} (e : Same H H') (h : SqT K H a xs) : SqT K H' a xs := by
  rcases h with (h | ⟨o, h⟩) | h
  · exact .inl (.inl (e _ _ h))
  · exact .inl (.inr ⟨o, e _ _ h⟩)
  · exact .inr h
theorem tyL {K : PySem.W.Frag} {H : Hp} {a : Addr} {xs : List V} (h : SqL K H a xs) : TyX K H (.ref a) (.type "list") := by
  rcases h with (h | ⟨o, h⟩) | ⟨o, its, n, h1, h2, h3⟩
  · exact .base (.lst h)
  · exact .base (.frz h)
  · exact .kList h1 h2
theorem tyT {K : PySem.W.Frag} {H : Hp} {a : Addr} {xs : List V} (h : SqT K H a xs) : TyX K H (.ref a) (.type "tuple") := by
  rcases h with (h | ⟨o, h⟩) | ⟨o, its, n, h1, h2, h3⟩
  · exact .base (.tup h)
  · exact .fTuple h
  · exact .kTuple h1 h2
theorem ix_any {K : PySem.W.Frag} {H : Hp} {a : Addr} {xs : List V} {i : Nat} {v : V} {Q : VK} (h : SqL K H a xs ∨ SqT K H a xs) (e : xs[i]? = some v) (q : Q v H) : rIx K (.ref a) (.int (i : Nat)) H Q := by
  rcases h with h | h
  · exact .inl ⟨a, xs, _, v, rfl, rfl, h, atI_nat e, q⟩
  · exact .inr (.inl ⟨a, xs, _, v, rfl, rfl, h, atI_nat e, q⟩)
/-- what was there before a new object was made stays, though that object changes -/
theorem Same.offUpd {H H' : Hp} {D : Addr} {o : HO} (e : Same H H') (n : H D = none) : Same H (upd H' D o) := fun b x h => by
  rw [upd_ne (ne_of_none h n)]
  exact e b x h
theorem yesT {σ : L2.St} {H : Hp} {A B : Hp → Prop} (h : A H) : tYes σ H (fun b H3 => if b = true then A H3 else B H3) := h
/-- the same data, of a depth below n -/
def Lk (K : PySem.W.Frag) (H : Hp) : Nat → V → V → Prop
  | 0, _, _ => False
  | n + 1, v, u => (v = u ∧ (v = .non ∨ (∃ b, v = .bl b) ∨ (∃ i, v = .int i) ∨ ∃ z, v = .str z)) ∨
    ∃ a b xs ys, v = .ref a ∧ u = .ref b ∧ ((SqL K H a xs ∧ SqL K H b ys) ∨ (SqT K H a xs ∧ SqT K H b ys)) ∧ xs.length = ys.length ∧ xs.length ≤ 1000 ∧ ∀ (i : Nat) (x y : V), xs[i]? = some x → ys[i]? = some y → Lk K H n x y
theorem Lk.same {K : PySem.W.Frag} {H H' : Hp} (e : Same H H') : ∀ (n : Nat) (v u : V), Lk K H n v u → Lk K H' n v u
  | 0, _, _, h => h
  | n + 1, v, u, h => by
    rcases h with h | ⟨a, b, xs, ys, e1, e2, h3, h4, h5, h6⟩
    · exact .inl h
    · refine .inr ⟨a, b, xs, ys, e1, e2, ?_, h4, h5, fun i x y p q => Lk.same e n x y (h6 i x y p q)⟩
      rcases h3 with ⟨p, q⟩ | ⟨p, q⟩
      · exact .inl ⟨e.seq p, e.seq q⟩
      · exact .inr ⟨Same.tup e p, Same.tup e q⟩
abbrev sLike : Stmt := topS 70
theorem scLike : FnScope ["_law_one", "_law_due", "_law_at"] ["_law_one", "_law_due"] (defScope sLike) := ⟨rfl, rfl, rfl, by decide +kernel, rfl, by decide +kernel, by decide +kernel⟩
def spLike (K : PySem.W.Frag) (n : Nat) : Sp := fun vs H Q _ => ∃ v u, vs = [v, u] ∧ Lk K H n v u ∧ ∀ H', Same H H' → Q (.bl true) H'
structure LkG (mg : Str → Option Value) : Prop where
  isi : mg "isinstance" = none
  tup : mg "tuple" = none
  lst : mg "list" = none
  len : mg "len" = none
  all : mg "all" = none
  rng : mg "range" = none
  bool : mg "bool" = none
  int : mg "int" = none
  str : mg "str" = none
section
variable {P : Program} {w : World} {K : PySem.W.Frag} {mg : Str → Option Value} {base : Heap}
theorem like_step {f : Addr} {fd : FuncData} {n : Nat} (F : Fun K "_law_like" "_law_like" sLike f fd) (b : Binds K fd ["_law_one", "_law_due"] []) (g : mg "_law_like" = some (.ref f)) (M : LkG mg)
    (G : FnOk P w K mg base CX0 n f fd ["_law_one", "_law_due"] (spLike K n)) : FnOk P w K mg base CX0 (n + 1) f fd ["_law_one", "_law_due"] (spLike K (n + 1)) := by
  refine F.ok scLike (fun vs H Q E h => ?_) (fun cdv A outer s H vs Q E hr h => ?_)
  · obtain ⟨v, u, rfl, _⟩ := h
    rfl
  · obtain ⟨v, u, rfl, hL, q⟩ := h
    refine ⟨_, pss_cons (ps_if (pt_val (pe_callB call_isiT (by rfl) M.isi (by decide +kernel) (pa_cons (pv 1) (pa_cons (pe_tup (pa_cons (pe_bltn (v := .ty "tuple") (by rfl) M.tup (by decide +kernel) rfl) (pa_cons (pe_bltn (v := .ty "list") (by rfl) M.lst (by decide +kernel) rfl) pa_nil))) pa_nil))))
        (pss_cons (ps_if (pt_cmpR op_ne (pe_callB call_isi (by rfl) M.isi (by decide +kernel) (pa_cons (pv 0) (pa_cons (pe_bltn (v := .ty "tuple") (by rfl) M.tup (by decide +kernel) rfl) pa_nil))) (pe_callB call_isi (by rfl) M.isi (by decide +kernel) (pa_cons (pv 1) (pa_cons (pe_bltn (v := .ty "tuple") (by rfl) M.tup (by decide +kernel) rfl) pa_nil))) (nomark _))
          (pss_one (ps_ret pe_bl)) pss_nil)
        (pss_cons (ps_if (PW.pt (pw_or (pt_not (pt_val (pe_callB call_isiT (by rfl) M.isi (by decide +kernel) (pa_cons (pv 0) (pa_cons (pe_tup (pa_cons (pe_bltn (v := .ty "tuple") (by rfl) M.tup (by decide +kernel) rfl) (pa_cons (pe_bltn (v := .ty "list") (by rfl) M.lst (by decide +kernel) rfl) pa_nil))) pa_nil)))))
            (pw_or1 (pt_cmpR op_ne (pe_callB call_len_seq (by rfl) M.len PySem.boot_len (pa_cons (pv 0) pa_nil)) (pe_callB call_len_seq (by rfl) M.len PySem.boot_len (pa_cons (pv 1) pa_nil)) (nomark _)))))
          (pss_one (ps_ret pe_bl)) pss_nil)
        (pss_one (ps_ret (pe_callB (cr_all rfl) (by rfl) M.all (by decide +kernel) (pa_cons (pe_lc (own := [("_law_at", 2)]) (g := gName 2) (tt := tYes) rfl scLike.nd (pi_range1 (by rfl) M.rng (pa_cons (pe_callB call_len_seq (by rfl) M.len PySem.boot_len (pa_cons (pv 1) pa_nil)) pa_nil))
            (blkOk_by (own := [("_law_at", 2)]) (N := ["_law_one", "_law_due", "_law_at"]) (sc := defScope sLike) (by decide +kernel)) (fun _ _ _ _ _ => pg_name (i := 2) scLike.nd rfl (Or.inl rfl)) (fun _ _ _ _ _ => pts_nil)
            (fun _ _ _ _ _ => pe_call G hr (by rfl) g F.kp b .nil pass0 (pa_cons (pe_ix (r := rIx K) ix_seq (pv 0) (pv 2) (fun _ _ => rfl)) (pa_cons (pe_ix (r := rIx K) ix_seq (pv 1) (pv 2) (fun _ _ => rfl)) pa_nil)))) pa_nil)))))) pss_nil)
      (pss_cons (ps_if (pt_val (pe_callB call_isi (by rfl) M.isi (by decide +kernel) (pa_cons (pv 1) (pa_cons (pe_bltn (v := .ty "bool") (by rfl) M.bool (by decide +kernel) rfl) pa_nil))))
        (pss_one (ps_ret (pe_and (pe_callB call_isi (by rfl) M.isi (by decide +kernel) (pa_cons (pv 0) (pa_cons (pe_bltn (v := .ty "bool") (by rfl) M.bool (by decide +kernel) rfl) pa_nil))) (pe_one (pe_cmpR op_eq (pv 0) (pv 1) (nomark _)))))) pss_nil)
      (pss_cons (ps_if (pt_val (pe_callB call_isi (by rfl) M.isi (by decide +kernel) (pa_cons (pv 1) (pa_cons (pe_bltn (v := .ty "int") (by rfl) M.int (by decide +kernel) rfl) pa_nil))))
        (pss_one (ps_ret (pe_and (pe_callB call_isi (by rfl) M.isi (by decide +kernel) (pa_cons (pv 0) (pa_cons (pe_bltn (v := .ty "int") (by rfl) M.int (by decide +kernel) rfl) pa_nil))) (pe_and (pe_not (pe_callB call_isi (by rfl) M.isi (by decide +kernel) (pa_cons (pv 0) (pa_cons (pe_bltn (v := .ty "bool") (by rfl) M.bool (by decide +kernel) rfl) pa_nil)))) (pe_one (pe_cmpR op_eq (pv 0) (pv 1) (nomark _))))))) pss_nil)
      (pss_cons (ps_if (pt_val (pe_callB call_isi (by rfl) M.isi (by decide +kernel) (pa_cons (pv 1) (pa_cons (pe_bltn (v := .ty "str") (by rfl) M.str (by decide +kernel) rfl) pa_nil))))
        (pss_one (ps_ret (pe_and (pe_callB call_isi (by rfl) M.isi (by decide +kernel) (pa_cons (pv 0) (pa_cons (pe_bltn (v := .ty "str") (by rfl) M.str (by decide +kernel) rfl) pa_nil))) (pe_one (pe_cmpR op_eq (pv 0) (pv 1) (nomark _)))))) pss_nil)
      (pss_one (ps_ret (pe_and (pe_cmp (pc_isN (pv 1)) rfl) (pe_one (pe_cmp (pc_isN (pv 0)) rfl)))))))), ?_⟩
    rcases hL with ⟨rfl, hs⟩ | ⟨a1, a2, xs, ys, rfl, rfl, h3, h4, h5, h6⟩
    · rcases hs with rfl | ⟨bb, rfl⟩ | ⟨i, rfl⟩ | ⟨z, rfl⟩
      · refine ⟨.non, rfl, (show (2 : Nat) ≤ sizeLine by decide), fun t nt => ⟨.non, t, _, .type "NoneType", [.type "tuple", .type "list"], false, rfl, upd_same, .cons (.ty _) (.cons (.ty _) .nil), .base .non, kitAny_cons (b := false) (kit_ty (by decide +kernel)) (fun _ => kitAny_cons (b := false) (kit_ty (by decide +kernel)) (fun _ => kitAny_nil) (fun e => nomatch e)) (fun e => nomatch e), _, rfl, iteF ?_⟩⟩
        refine ⟨.non, rfl, .non, _, _, _, false, rfl, .ty _, .base .non, kit_ty (by decide +kernel), _, rfl, iteF ?_⟩
        refine ⟨.non, rfl, .non, _, _, _, false, rfl, .ty _, .base .non, kit_ty (by decide +kernel), _, rfl, iteF ?_⟩
        refine ⟨.non, rfl, .non, _, _, _, false, rfl, .ty _, .base .non, kit_ty (by decide +kernel), _, rfl, iteF ?_⟩
        refine ⟨.non, rfl, _, rfl, iteT ⟨.non, rfl, ?_⟩⟩
        exact q _ (same_upd nt)
      · refine ⟨.bl bb, rfl, (show (2 : Nat) ≤ sizeLine by decide), fun t nt => ⟨.bl bb, t, _, .type "bool", [.type "tuple", .type "list"], false, rfl, upd_same, .cons (.ty _) (.cons (.ty _) .nil), .base (.bl bb), kitAny_cons (b := false) (kit_ty (by decide +kernel)) (fun _ => kitAny_cons (b := false) (kit_ty (by decide +kernel)) (fun _ => kitAny_nil) (fun e => nomatch e)) (fun e => nomatch e), _, rfl, iteF ?_⟩⟩
        refine ⟨.bl bb, rfl, .bl bb, _, _, _, true, rfl, .ty _, .base (.bl bb), kit_ty (by decide +kernel), _, rfl, iteT ?_⟩
        refine ⟨.bl bb, rfl, .bl bb, _, _, _, true, rfl, .ty _, .base (.bl bb), kit_ty (by decide +kernel), _, rfl, iteT ⟨.bl bb, rfl, .bl bb, rfl, rfl, ?_⟩⟩
        rw [decide_eq_true rfl]
        exact q _ (same_upd nt)
      · refine ⟨.int i, rfl, (show (2 : Nat) ≤ sizeLine by decide), fun t nt => ⟨.int i, t, _, .type "int", [.type "tuple", .type "list"], false, rfl, upd_same, .cons (.ty _) (.cons (.ty _) .nil), .base (.int i), kitAny_cons (b := false) (kit_ty (by decide +kernel)) (fun _ => kitAny_cons (b := false) (kit_ty (by decide +kernel)) (fun _ => kitAny_nil) (fun e => nomatch e)) (fun e => nomatch e), _, rfl, iteF ?_⟩⟩
        refine ⟨.int i, rfl, .int i, _, _, _, false, rfl, .ty _, .base (.int i), kit_ty (by decide +kernel), _, rfl, iteF ?_⟩
        refine ⟨.int i, rfl, .int i, _, _, _, true, rfl, .ty _, .base (.int i), kit_ty (by decide +kernel), _, rfl, iteT ?_⟩
        refine ⟨.int i, rfl, .int i, _, _, _, true, rfl, .ty _, .base (.int i), kit_ty (by decide +kernel), _, rfl, iteT ⟨.int i, rfl, .int i, _, _, _, false, rfl, .ty _, .base (.int i), kit_ty (by decide +kernel), _, rfl, _, rfl, iteT ⟨.int i, rfl, .int i, rfl, rfl, ?_⟩⟩⟩
        rw [decide_eq_true rfl]
        exact q _ (same_upd nt)
      · refine ⟨.str z, rfl, (show (2 : Nat) ≤ sizeLine by decide), fun t nt => ⟨.str z, t, _, .type "str", [.type "tuple", .type "list"], false, rfl, upd_same, .cons (.ty _) (.cons (.ty _) .nil), .base (.str z), kitAny_cons (b := false) (kit_ty (by decide +kernel)) (fun _ => kitAny_cons (b := false) (kit_ty (by decide +kernel)) (fun _ => kitAny_nil) (fun e => nomatch e)) (fun e => nomatch e), _, rfl, iteF ?_⟩⟩
        refine ⟨.str z, rfl, .str z, _, _, _, false, rfl, .ty _, .base (.str z), kit_ty (by decide +kernel), _, rfl, iteF ?_⟩
        refine ⟨.str z, rfl, .str z, _, _, _, false, rfl, .ty _, .base (.str z), kit_ty (by decide +kernel), _, rfl, iteF ?_⟩
        refine ⟨.str z, rfl, .str z, _, _, _, true, rfl, .ty _, .base (.str z), kit_ty (by decide +kernel), _, rfl, iteT ?_⟩
        refine ⟨.str z, rfl, .str z, _, _, _, true, rfl, .ty _, .base (.str z), kit_ty (by decide +kernel), _, rfl, iteT ⟨.str z, rfl, .str z, rfl, rfl, ?_⟩⟩
        rw [decide_eq_true rfl]
        exact q _ (same_upd nt)
    · obtain ⟨ty, bt, ht1, ht2, k2, k3, hq1, hq2⟩ : ∃ (ty : String) (bt : Bool), (∀ H', Same H H' → TyX K H' (.ref a1) (.type ty)) ∧ (∀ H', Same H H' → TyX K H' (.ref a2) (.type ty)) ∧ PySem.W.kitAny K (.type ty) [.type "tuple", .type "list"] = some true ∧ PySem.W.kitOne K (.type ty) (.type "tuple") = some bt ∧ (∀ H', Same H H' → SqL K H' a1 xs ∨ SqT K H' a1 xs) ∧ (∀ H', Same H H' → SqL K H' a2 ys ∨ SqT K H' a2 ys) := by
        rcases h3 with ⟨p1, p2⟩ | ⟨p1, p2⟩
        · exact ⟨"list", false, fun _ e => tyL (e.seq p1), fun _ e => tyL (e.seq p2), kitAny_cons (b := false) (kit_ty (by decide +kernel)) (fun _ => kitAny_cons (b := true) (kit_ty (by decide +kernel)) (fun e => nomatch e) (fun _ => rfl)) (fun e => nomatch e), kit_ty (by decide +kernel), fun _ e => .inl (e.seq p1), fun _ e => .inl (e.seq p2)⟩
        · exact ⟨"tuple", true, fun _ e => tyT (Same.tup e p1), fun _ e => tyT (Same.tup e p2), kitAny_cons (b := true) (kit_ty (by decide +kernel)) (fun e => nomatch e) (fun _ => rfl), kit_ty (by decide +kernel), fun _ e => .inr (Same.tup e p1), fun _ e => .inr (Same.tup e p2)⟩
      refine ⟨.ref a2, rfl, (show (2 : Nat) ≤ sizeLine by decide), fun t nt => ⟨.ref a2, t, _, .type ty, [.type "tuple", .type "list"], true, rfl, upd_same, .cons (.ty _) (.cons (.ty _) .nil), ht2 _ (same_upd nt), k2, _, rfl, iteT ?_⟩⟩
      have s1 : Same H (upd H t (.tup [.ty "tuple", .ty "list"])) := same_upd nt
      refine ⟨.ref a1, rfl, .ref a1, _, _, _, bt, rfl, .ty _, ht1 _ s1, k3, .ref a2, rfl, .ref a2, _, _, _, bt, rfl, .ty _, ht2 _ s1, k3, rfl, _, rfl, iteNS rfl ?_⟩
      refine ⟨.ref a1, rfl, (show (2 : Nat) ≤ sizeLine by decide), fun t2 nt2 => ⟨.ref a1, t2, _, .type ty, [.type "tuple", .type "list"], true, rfl, upd_same, .cons (.ty _) (.cons (.ty _) .nil), ht1 _ (s1.trans (same_upd nt2)), k2, _, rfl, iteF ?_⟩⟩
      have s2 := s1.trans (same_upd (o := .tup [.ty "tuple", .ty "list"]) nt2)
      generalize upd (upd H t (.tup [.ty "tuple", .ty "list"])) t2 (.tup [.ty "tuple", .ty "list"]) = H2 at s2 ⊢
      refine ⟨.ref a1, rfl, a1, xs, rfl, hq1 _ s2, .ref a2, rfl, a2, ys, rfl, hq2 _ s2, rfl, _, rfl, iteNS (by rw [h4]) ?_⟩
      refine ⟨.ref a2, rfl, a2, ys, rfl, hq2 _ s2, (ys.length : Nat), rfl, by omega, by omega, fun D nD => ?_⟩
      refine lc_range (lo := 0) (n := ((ys.length : Nat) : Int).toNat) (fun i H' => Same H2 H' ∧ H' D = some (.lst ((List.replicate i true).map V.bl))) ⟨same_upd nD, upd_same⟩ (fun i H' hi hP => ?_) (fun H' hP => ?_)
      · obtain ⟨sm, hD⟩ := hP
        have hi2 : i < ys.length := by omega
        have hi1 : i < xs.length := by omega
        have e0 : (0 : Int) + (i : Int) = (i : Nat) := by omega
        have s3 := s2.trans sm
        refine ⟨rfl, yesT ?_⟩
        refine ⟨.ref a1, rfl, .int (0 + i), rfl, ?_⟩
        rw [e0]
        refine ix_any (hq1 _ s3) (List.getElem?_eq_getElem hi1) ⟨.ref a2, rfl, _, rfl, ?_⟩
        refine ix_any (hq2 _ s3) (List.getElem?_eq_getElem hi2) ?_
        refine ⟨xs[i], ys[i], rfl, Lk.same s3 n _ _ (h6 i _ _ (List.getElem?_eq_getElem hi1) (List.getElem?_eq_getElem hi2)), fun H3 sm3 => ?_⟩
        refine ⟨_, sm3 _ _ hD, ?_, Same.offUpd (sm.trans sm3) nD, ?_⟩
        · rw [List.length_map, List.length_replicate]
          exact small1000 (by omega)
        · rw [upd_same, List.replicate_succ', List.map_append]
          rfl
      · obtain ⟨sm, hD⟩ := hP
        refine ⟨D, _, rfl, .inl (.inl hD), ?_⟩
        rw [show (List.replicate ((ys.length : Nat) : Int).toNat true).all id = true by simp]
        exact q _ (s2.trans sm)
theorem ok_like {f : Addr} {fd : FuncData} (F : Fun K "_law_like" "_law_like" sLike f fd) (b : Binds K fd ["_law_one", "_law_due"] []) (g : mg "_law_like" = some (.ref f)) (M : LkG mg) : ∀ n : Nat, FnOk P w K mg base CX0 n f fd ["_law_one", "_law_due"] (spLike K n)
  | 0 => ⟨fun vs H Q E h => by obtain ⟨v, u, _, h, _⟩ := h; exact h.elim, fun A outer s H args us vs Q E hr he hb hv h => by obtain ⟨v, u, _, h, _⟩ := h; exact h.elim⟩
  | n + 1 => like_step F b g M (ok_like F b g M n)
end
/-! ### rules whose answer is some object that holds the wanted things, new or not -/
theorem tuple_mulW1 (l : Addr) (items : Array Value) (n : Nat) (dd : Option Addr) (sl : Array (Option Value)) (u : Tok) :
    Meets (Builtin.«tuple.__mul__» ⟨[.ref l, .int 1 u], []⟩) (fun _ R s => s.heap.get? l = some { cls := .type "tuple", dict := dd, data := .seq items n, slots := sl } ∧ R (.ok (.ret (Value.ref l))) { s with heap := s.heap, toks := s.toks }) :=
  .of_wp fun prog w A R s h => by
    obtain ⟨hp, g, d, tk, os⟩ := s
    obtain ⟨hl, h⟩ := h
    have f1 := AutoSeq1.idx_int
    wp_walk using wpAny_loadPart' hl
    exact ⟨_, rfl, h⟩
section
variable {X : Cx}
def rRepT1 (K : PySem.W.Frag) : R2 := fun x y H Q => ∃ l xs, x = .ref l ∧ y = .int 1 ∧ SqT K H l xs ∧ Q (.ref l) H
theorem op_repT1 : OpR X (binaryOp .Mult) (rRepT1 X.K) := by
  intro pins s σ H x y v u Q I rx ry h
  obtain ⟨l, xs, rfl, rfl, hT, q⟩ := h
  cases rx
  obtain ⟨t, rfl⟩ := ry
  obtain ⟨its, r, ⟨⟨cls, dd, data, sl⟩, ho, hc, n, hd⟩, hs⟩ := I.tuple hT
  simp only at hc hd
  subst hc hd
  refine wpAny_binaryOp_repeat_ref (T := "tuple") (U := "int") (by decide) ⟨_, ho, rfl⟩ (fun s' => typeIs_int s' 1 t) noFill_tuple_mul F.fills_int_mul F.slot_int_rmul repeat_tuple F.slot_int_index.lookup
    (call_meets F.slot_int_rmul (typeIs_int s 1 t) F.entry_int_rmul (F.args_int_rmul_2 _ _) (int_rmul_tuple 1 t l its.toArray n dd sl)
      ⟨ho, rfl, ⟨_, ho, rfl⟩, call_meets F.slot_tuple_mul ⟨_, ho, rfl⟩ F.entry_tuple_mul (F.args_tuple_mul_2 _ _) (tuple_mulW1 l its.toArray n dd sl t) ⟨ho, ?_⟩⟩)
  exact ⟨.ref l, H, I, rfl, q⟩
/-- t * k -/
def rRepS (K : PySem.W.Frag) : R2 := fun x y H Q => ∃ l k xs, x = .ref l ∧ y = .int k ∧ SqT K H l xs ∧ xs ≠ [] ∧ 1 ≤ k ∧ k ≤ 1000 ∧ xs.length ≤ 1000 ∧ ∀ p H', Same H H' → SqT K H' p (List.replicate k.toNat xs).flatten → Q (.ref p) H'
theorem op_repS : OpR X (binaryOp .Mult) (rRepS X.K) := by
  intro pins s σ H x y v u Q I rx ry h
  obtain ⟨l, k, xs, rfl, rfl, hT, hne, h1, h2, h3, q⟩ := h
  by_cases hk : k = 1
  · subst hk
    refine op_repT1 pins s σ H _ _ v u Q I rx ry ⟨l, xs, rfl, rfl, hT, q l H (Same.refl H) ?_⟩
    rw [show (List.replicate (1 : Int).toNat xs).flatten = xs by simp]
    exact hT
  · exact op_repT pins s σ H _ _ v u Q I rx ry ⟨l, k, xs, rfl, rfl, hT, hne, by omega, h2, h3, fun p np => q p _ (same_upd np) (SqT.of upd_same)⟩
/-- t + u -/
def rCatS (K : PySem.W.Frag) : R2 := fun x y H Q => ∃ a b xs ys, x = .ref a ∧ y = .ref b ∧ SqT K H a xs ∧ SqT K H b ys ∧ xs.length + ys.length ≤ sizeLine ∧ ∀ p H', Same H H' → SqT K H' p (xs ++ ys) → Q (.ref p) H'
theorem op_catS : OpR X (binaryOp .Add) (rCatS X.K) := by
  intro pins s σ H x y v u Q I rx ry h
  obtain ⟨a, b, xs, ys, rfl, rfl, ha, hb, hz, q⟩ := h
  refine op_catA pins s σ H _ _ v u Q I rx ry ⟨a, b, xs, ys, rfl, rfl, ha, hb, hz, fun e => ?_, fun _ e => ?_, fun _ _ p np => q p _ (same_upd np) (SqT.of upd_same)⟩
  · subst e
    exact q b H (Same.refl H) hb
  · subst e
    exact q a H (Same.refl H) (by rw [List.append_nil]; exact ha)
/-- t[lo:hi] -/
def rSlS (K : PySem.W.Frag) : V → Option Int → Option Int → Hp → VK → Prop := fun x lo hi H Q => ∃ a xs, x = .ref a ∧ (SqL K H a xs ∨ SqT K H a xs) ∧ ∀ p H', Same H H' → ((∃ ys, SqL K H a ys) → SqL K H' p (cutV xs lo hi)) → ((∃ ys, SqT K H a ys) → SqT K H' p (cutV xs lo hi)) → (SqL K H' p (cutV xs lo hi) ∨ SqT K H' p (cutV xs lo hi)) → Q (.ref p) H'
def rSlT' (K : PySem.W.Frag) : V → Option Int → Option Int → Hp → VK → Prop := fun x lo hi H Q => ∃ a xs, x = .ref a ∧ SqT K H a xs ∧ ∀ p H', Same H H' → SqT K H' p (cutV xs lo hi) → Q (.ref p) H'
theorem cut_whole {α : Type} {xs : List α} {lo hi : Option Int} (h : HT.sIx xs.length 0 lo = 0 ∧ HT.sIx xs.length xs.length hi = xs.length) : ((xs.drop (HT.sIx xs.length 0 lo)).take (HT.sIx xs.length xs.length hi - HT.sIx xs.length 0 lo)) = xs := by
  rw [h.1, h.2]
  simp
theorem sl_tupS : L2.SlR X (rSlT' X.K) := by
  intro pins s σ H x v vl vu lo hi sl Q I rx hs pl pu h
  obtain ⟨a, xs, rfl, hx, q⟩ := h
  refine sl_tupA pins s σ H _ v vl vu lo hi sl Q I rx hs pl pu ⟨a, xs, rfl, hx, fun e => ?_, fun _ p np => q p _ (same_upd np) (SqT.of upd_same)⟩
  exact q a H (Same.refl H) (by rw [show cutV xs lo hi = xs from cut_whole e]; exact hx)
/-- a list's or a tuple's slice -/
def rSlQ (K : PySem.W.Frag) : V → Option Int → Option Int → Hp → VK → Prop := fun x lo hi H Q => ∃ a xs, x = .ref a ∧ (SqL K H a xs ∨ SqT K H a xs) ∧ ∀ p H', Same H H' → (SqL K H' p (cutV xs lo hi) ∨ SqT K H' p (cutV xs lo hi)) → Q (.ref p) H'
theorem sl_seqS : L2.SlR X (rSlQ X.K) := by
  intro pins s σ H x v vl vu lo hi sl Q I rx hs pl pu h
  obtain ⟨a, xs, rfl, hx, q⟩ := h
  rcases hx with hx | hx
  · exact sl_list pins s σ H _ v vl vu lo hi sl Q I rx hs pl pu ⟨a, xs, rfl, hx, fun p np => q p _ (same_upd np) (.inl (SqL.of upd_same))⟩
  · exact sl_tupS pins s σ H _ v vl vu lo hi sl Q I rx hs pl pu ⟨a, xs, rfl, hx, fun p H' e h => q p H' e (.inr h)⟩
/-- tuple(x) -/
def rTupS (K : PySem.W.Frag) : List V → Hp → VK → Prop := fun vs H Q => ∃ p ys, vs = [.ref p] ∧ (SqL K H p ys ∨ SqT K H p ys) ∧ ∀ l H', Same H H' → SqT K H' l ys → Q (.ref l) H'
theorem call_tupS : CallR X (.type "tuple") (rTupS X.K) := by
  intro pins s σ H xs us Q I r h
  obtain ⟨p, ys, rfl, hx, q⟩ := h
  refine call_tuple_of pins s σ H _ us Q I r ⟨p, ys, rfl, ?_⟩
  rcases hx with hx | hx
  · exact .inl ⟨hx, fun l nl => q l _ (same_upd nl) (SqT.of upd_same)⟩
  · exact .inr ⟨hx, q p H (Same.refl H) hx⟩
/-- len(x) -/
def rLenQ (K : PySem.W.Frag) : List V → Hp → VK → Prop := fun xs H Q => ∃ p ys, xs = [.ref p] ∧ (SqL K H p ys ∨ SqT K H p ys) ∧ Q (.int (ys.length : Nat)) H
theorem call_lenQ : CallR X (.builtin "len") (rLenQ X.K) := call_len_seq
end
theorem cut_to {α : Type} (xs : List α) (k : Nat) : ((xs.drop (HT.sIx xs.length 0 none)).take (HT.sIx xs.length xs.length (some (k : Int)) - HT.sIx xs.length 0 none)) = xs.take k := by
  rw [HT.sIx_none, HT.sIx_nat, List.drop_zero, Nat.sub_zero]
  rcases Nat.le_total k xs.length with h | h
  · rw [Nat.min_eq_left h]
  · rw [Nat.min_eq_right h, List.take_of_length_le h, List.take_length]
theorem cut_from {α : Type} (xs : List α) (k : Nat) : ((xs.drop (HT.sIx xs.length 0 (some (k : Int)))).take (HT.sIx xs.length xs.length none - HT.sIx xs.length 0 (some (k : Int)))) = xs.drop k := by
  rw [HT.sIx_none, HT.sIx_nat]
  rcases Nat.le_total k xs.length with h | h
  · rw [Nat.min_eq_left h, ← List.length_drop, List.take_length]
  · rw [Nat.min_eq_right h, List.drop_of_length_le h, List.drop_length, List.take_nil]
theorem cutV_to (xs : List V) (k : Nat) : cutV xs none (some (k : Int)) = xs.take k := cut_to xs k
theorem cutV_from (xs : List V) (k : Nat) : cutV xs (some (k : Int)) none = xs.drop k := cut_from xs k
/-! ### data of whole numbers -/
theorem dpI {K : PySem.W.Frag} {H : Hp} : ∀ ns : List Int, DpAll K H (ns.map V.int) (ns.map PyData.int)
  | [] => .nil
  | n :: r => .cons (.int n) (dpI r)
theorem canLay_ints : ∀ ns : List Int, PyData.canLayAll0 (ns.map PyData.int) = true
  | [] => rfl
  | _ :: r => by simp [PyData.canLayAll0, PyData.canLay0, canLay_ints r]
theorem depth_ints : ∀ ns : List Int, PyData.depthAll (ns.map PyData.int) = 0
  | [] => rfl
  | _ :: r => by simp [PyData.depthAll, PyData.depth, depth_ints r]
theorem shL (ns : List Int) : SeqAt.shaped (.list (ns.map PyData.int)) = true := by
  simp [SeqAt.shaped, PyData.canLay0, PyData.depth, canLay_ints, depth_ints]
theorem shT (ns : List Int) : SeqAt.shaped (.tuple (ns.map PyData.int)) = true := by
  simp [SeqAt.shaped, PyData.canLay0, PyData.depth, canLay_ints, depth_ints]
theorem eqv_ints : ∀ ns ms : List Int, PyData.eqvAll (ns.map PyData.int) (ms.map PyData.int) = decide (ns = ms)
  | [], [] => rfl
  | [], _ :: _ => by simp [PyData.eqvAll]
  | _ :: _, [] => by simp [PyData.eqvAll]
  | a :: r, b :: t => by
    simp only [List.map_cons, PyData.eqvAll, PyData.eqv, eqv_ints r t]
    by_cases h : a = b <;> by_cases h' : r = t <;> simp [h, h']
theorem eqvL (ns ms : List Int) : PyData.eqv (.list (ns.map PyData.int)) (.list (ms.map PyData.int)) = decide (ns = ms) := by
  simp only [PyData.eqv]
  exact eqv_ints ns ms
theorem eqvT (ns ms : List Int) : PyData.eqv (.tuple (ns.map PyData.int)) (.tuple (ms.map PyData.int)) = decide (ns = ms) := by
  simp only [PyData.eqv]
  exact eqv_ints ns ms
theorem dpL {K : PySem.W.Frag} {H : Hp} {a : Addr} {ns : List Int} (h : SqL K H a (ns.map V.int)) : Dp K H (.ref a) (.list (ns.map PyData.int)) := .lst h (dpI ns)
theorem dpT {K : PySem.W.Frag} {H : Hp} {a : Addr} {ns : List Int} (h : SqT K H a (ns.map V.int)) : Dp K H (.ref a) (.tuple (ns.map PyData.int)) := .tup h (dpI ns)
theorem flat_map (ns : List Int) (k : Nat) : (List.replicate k (ns.map V.int)).flatten = ((List.replicate k ns).flatten).map V.int := by
  induction k with
  | zero => rfl
  | succ k ih => rw [List.replicate_succ, List.replicate_succ, List.flatten_cons, List.flatten_cons, List.map_append, ih]
theorem small_k {n : Nat} (h : n ≤ 5000) : n < sizeLine := by
  rw [sizeLine_eq]
  omega
theorem same_any {K : PySem.W.Frag} {H H' : Hp} {a : Addr} {xs : List V} (e : Same H H') (h : SqL K H a xs ∨ SqT K H a xs) : SqL K H' a xs ∨ SqT K H' a xs := by
  rcases h with h | h
  · exact .inl (e.seq h)
  · exact .inr (Same.tup e h)
def nI (ns : List Nat) : List Int := ns.map fun (n : Nat) => (n : Int)
/-! ### a tuple of a text in a list of tuples that begin with other texts -/
section
variable {X : Cx}
def rInW (K : PySem.W.Frag) : R2 := fun x y H Q => ∃ (t p : Addr) (xs : List V) (z : Str), x = .ref t ∧ y = .ref p ∧ SqT K H t [.str z] ∧ SqL K H p xs ∧ (∀ v ∈ xs, ∃ (a : Addr) (z' : Str) (ws : List V), v = .ref a ∧ a ≠ t ∧ SqT K H a (.str z' :: ws) ∧ z' ≠ z) ∧ Q (.bl false) H
theorem vals_mem : ∀ {xs : List V} {us : List Value} {u : Value}, Vals xs us → u ∈ us → ∃ v ∈ xs, L2.RelV v u
  | _, _, _, .nil, h => nomatch h
  | v :: xs, u' :: us, u, .cons r t, h => by
    rcases List.mem_cons.mp h with rfl | h
    · exact ⟨v, List.mem_cons_self, r⟩
    · obtain ⟨w, h1, h2⟩ := vals_mem t h
      exact ⟨w, List.mem_cons_of_mem _ h1, h2⟩
theorem op_inW (hu : X.A.units + 64 < cLine) : OpR X (compareOp .In) (rInW X.K) := by
  intro pins s σ H x y v u Q I rx ry h
  obtain ⟨t, p, xs, z, rfl, rfl, ht, hp, hall, q⟩ := h
  cases rx
  cases ry
  obtain ⟨its, r, pl, _⟩ := I.list hp
  obtain ⟨us, ru, pt, _⟩ := I.tuple ht
  cases ru with
  | cons r0 rt =>
    cases rt
    obtain ⟨tk, rfl⟩ := r0
    refine SeqAt.in_listAt (fun _ => false) pl.isList (fun y hy => ?_) ⟨.bl false, H, I, ?_, q⟩
    · obtain ⟨v, hv, rv⟩ := vals_mem r (show y ∈ its from by simpa using hy)
      obtain ⟨a, z', ws, rfl, ne, ha, nz⟩ := hall v hv
      obtain rfl : y = Value.ref a := rv
      obtain ⟨us2, ru2, pa, _⟩ := I.tuple ha
      cases ru2 with
      | cons r1 rt2 =>
        rename_i u1 us3
        obtain ⟨tk1, rfl⟩ := r1
        have rc := SeqAt.RcAt.tuples (A := X.A.in1) (e := fun _ => false) pa pt (by show X.A.in1.units < cLine; simp; omega) (fun j h1 h2 => by
          have hj : j = 0 := by
            have : j < 1 := by simpa using h2
            omega
          subst hj
          have e := SeqAt.EqAt.str_str (A := X.A.in1.in1) (s := s) z' tk1 z tk
          rw [show (z' == z) = false from by simpa using nz] at e
          exact e)
        have e0 : ((List.range (min (Value.str z' tk1 :: us3).toArray.size [Value.str z tk].toArray.size)).all (fun _ => false) && (Value.str z' tk1 :: us3).toArray.size == [Value.str z tk].toArray.size) = false := by
          rw [show min (Value.str z' tk1 :: us3).toArray.size [Value.str z tk].toArray.size = 1 from by simp]
          rfl
        rw [e0] at rc
        exact SeqAt.EqAt.of_refs ne rc
    · simp [L2.RelV]
end
/-! ### for i, (x, y) in enumerate(zip(xs, ys)) -/
/-- a zip, its first two fields at will -/
abbrev ZipX (h : Heap) (z TI TO : Addr) (f0 : Value) (f1 : Bool) : Prop :=
  h.get? z = some { cls := .type "zip", dict := none, data := .fields #[f0, .bool f1, .bool false, .ref TI, .ref TO], slots := #[] }
/-- its tuple is free: it has none, or the one that it had is gone -/
def FreeT (h : Heap) (f0 : Value) : Prop := f0 = .none ∨ ∃ T : Addr, f0 = rawInt T ∧ h.get? T = none
section
variable {P : Program} {w : World} {A : Around} {E : Value → Shared → Prop} {s : Shared}
theorem gone_is {a : Addr} {Q : Option Obj → Shared → Prop} (e : s.heap.get? a = none) (q : Q none s) : wpAny (model P w) A (loadIfAlive a) Q E s := by
  have q2 : Q (s.heap.get? a) s := by rw [e]; exact q
  exact fun _ _ _ => q2
theorem owned_free {z TI TO : Addr} {f0 : Value} {f1 : Bool} {Q : Bool → Shared → Prop} (pz : ZipX s.heap z TI TO f0 f1) (fr : FreeT s.heap f0) (q : Q true s) : wpAny (model P w) A (Builtin.SmallTypes.ownedTupleIsFree (.ref z)) Q E s := by
  unfold Builtin.SmallTypes.ownedTupleIsFree
  rcases fr with rfl | ⟨T, rfl, gT⟩
  · exact wpAny_bind (wpAny_field pz rfl (x := .none) rfl (wpAny_pure q))
  · refine wpAny_bind (wpAny_field pz rfl (x := rawInt T) rfl ?_)
    show wpAny _ _ (loadIfAlive ((T : Int).toNat) >>= _) _ _ _
    rw [Int.toNat_natCast]
    refine wpAny_bind (gone_is gT ?_)
    simp only [Option.isNone_none, if_true]
    exact wpAny_pure q
/-- the next pair, the zip's tuple being free -/
theorem zfree_item {z TI TO i1 i2 a b : Addr} {f0 : Value} {f1 : Bool} {m n : Nat} {xs ys : Array Value} {x y u v : Value} {Q : Value → Shared → Prop} (D : ZipApart z TI TO i1 i2 a b) (pz : ZipX s.heap z TI TO f0 f1) (fr : FreeT s.heap f0)
    (pI : IsPair s.heap TI (.ref i1) (.ref i2)) (pO : IsPair s.heap TO u v) (p1 : s.heap.IsListIter i1 a m) (p2 : s.heap.IsListIter i2 b n) (la : s.heap.IsList a xs) (lb : s.heap.IsList b ys) (ex : xs[m]? = some x) (ey : ys[n]? = some y)
    (q : ∀ h', IsZip h' z TI TO (rawInt s.heap.objs.size) → IsPair h' TO x y → h'.IsListIter i1 a (m + 1) → h'.IsListIter i2 b (n + 1) → IsPair h' s.heap.objs.size x y → h'.objs.size = s.heap.objs.size + 1 →
      (∀ c o, c ≠ z → c ≠ TO → c ≠ i1 → c ≠ i2 → s.heap.get? c = some o → h'.get? c = some o) → Q (.ref s.heap.objs.size) { s with heap := h' }) :
    wpAny (model P w) A (Builtin.«zip.__next__» ⟨[.ref z], []⟩) (fun fin s' => ∃ v, fin = .done (.ret v) ∧ Q v s') E s := by
  show wpAny _ _ (field (.ref z) 2 >>= _) _ _ _
  refine wpAny_bind (wpAny_field pz rfl (x := .bool false) rfl ?_)
  show wpAny _ _ (field (.ref z) 3 >>= _) _ _ _
  refine wpAny_bind (wpAny_field pz rfl (x := .ref TI) rfl (wpAny_bind (wpAny_seqItems pI rfl ?_)))
  show wpAny _ _ (Builtin.SmallTypes.ownedTupleIsFree (.ref z) >>= _) _ _ _
  refine wpAny_bind (owned_free pz fr ?_)
  simp only [if_true]
  refine wpAny_bind (wpAny_rule (wpAny_bind (wpAny_field pz rfl (x := .ref TO) rfl ?_)))
  refine wpAny_bind (wpAny_setField_rec pz (by simp) fun k1 z1 e1 => ?_)
  have z1 : ZipX k1 z TI TO .ellipsis f1 := z1
  refine wpAny_bind ?_
  simp only [List.zipIdx_cons, List.zipIdx_nil, List.forIn_cons, List.forIn_nil]
  refine wpAny_bind (wpAny_bind (wpAny_onRaise ?_))
  show wpAny _ _ (Builtin.SmallTypes.nextOf (.ref i1) >>= _) _ _ _
  refine wpAny_bind (wpAny_nextOf_list_item (p1.extBut e1.extBut D.i1z) (la.extBut e1.extBut D.l1z) ex fun k2 g2 e2 => wpAny_pure ?_)
  have o2 : IsPair k2 TO u v := e2.extBut _ _ D.TOi1 (e1.extBut _ _ D.TOz pO)
  refine wpAny_bind (wpAny_seqItems o2 rfl (wpAny_bind (wpAny_updateSeq_pair o2 fun k3 o3 e3 => ?_)))
  have o3 : IsPair k3 TO x v := o3
  refine wpAny_bind (wpAny_letGo (wpAny_pure (wpAny_bind (wpAny_bind (wpAny_onRaise ?_)))))
  show wpAny _ _ (Builtin.SmallTypes.nextOf (.ref i2) >>= _) _ _ _
  have p23 := ((p2.extBut e1.extBut D.i2z).extBut e2.extBut D.i12.symm).extBut e3.extBut D.TOi2.symm
  have lb3 := ((lb.extBut e1.extBut D.l2z).extBut e2.extBut D.l2i1).extBut e3.extBut D.l2TO
  refine wpAny_bind (wpAny_nextOf_list_item p23 lb3 ey fun k4 g4 e4 => wpAny_pure ?_)
  have o4 : IsPair k4 TO x v := e4.extBut _ _ D.TOi2 o3
  refine wpAny_bind (wpAny_seqItems o4 rfl (wpAny_bind (wpAny_updateSeq_pair o4 fun k5 o5 e5 => ?_)))
  have o5 : IsPair k5 TO x y := o5
  refine wpAny_bind (wpAny_letGo (wpAny_pure (wpAny_pure ?_)))
  refine wpAny_bind (wpAny_seqItems o5 rfl (wpAny_bind (wpAny_newTuple ?_)))
  have size : k5.objs.size = s.heap.objs.size := by rw [e5.1, e4.1, e3.1, e2.1, e1.1]
  have z5 : ZipX k5 z TI TO .ellipsis f1 := e5.extBut _ _ D.TOz.symm (e4.extBut _ _ D.i2z.symm (e3.extBut _ _ D.TOz.symm (e2.extBut _ _ D.i1z.symm z1)))
  have keep5 : ∀ c o, c ≠ z → c ≠ TO → c ≠ i1 → c ≠ i2 → s.heap.get? c = some o → k5.get? c = some o := fun c o n1 n2 n3 n4 g => e5.extBut _ _ n2 (e4.extBut _ _ n4 (e3.extBut _ _ n2 (e2.extBut _ _ n3 (e1.extBut _ _ n1 g))))
  have p15 : k5.IsListIter i1 a (m + 1) := ((g2.extBut e3.extBut D.TOi1.symm).extBut e4.extBut D.i12).extBut e5.extBut D.TOi1.symm
  have p25 : k5.IsListIter i2 b (n + 1) := g4.extBut e5.extBut D.TOi2.symm
  have zlt : z < k5.objs.size := Heap.lt_size z5
  show wpAny _ _ (Builtin.SmallTypes.ownedTupleHandOut (.ref z) (.ref k5.objs.size) >>= _) _ _ _
  refine wpAny_bind ?_
  unfold Builtin.SmallTypes.ownedTupleHandOut
  have z6 : ZipX (k5.push { cls := .type "tuple", data := .seq #[x, y] }) z TI TO .ellipsis f1 := Heap.get?_push_of_some _ z5
  refine wpAny_bind (wpAny_setField_rec z6 (by simp) fun k7 z7 e7 => ?_)
  have z7 : ZipX k7 z TI TO (rawInt k5.objs.size) f1 := z7
  refine wpAny_setField_rec z7 (by simp) fun k8 z8 e8 => ?_
  have z8 : IsZip k8 z TI TO (rawInt k5.objs.size) := z8
  have up : ∀ c o, c ≠ z → k5.get? c = some o → k8.get? c = some o := fun c o n1 g => e8.extBut _ _ n1 (e7.extBut _ _ n1 (Heap.get?_push_of_some _ g))
  have t8 : IsPair k8 k5.objs.size x y := e8.extBut _ _ (Nat.ne_of_gt zlt) (e7.extBut _ _ (Nat.ne_of_gt zlt) (Heap.get?_push_size _ rfl))
  have size8 : k8.objs.size = k5.objs.size + 1 := by rw [e8.1, e7.1, Heap.size_push]
  rw [size] at z8 t8 size8
  refine wpAny_pure ⟨_, rfl, ?_⟩
  show Q (.ref k5.objs.size) _
  rw [size]
  exact q k8 z8 (up _ _ D.TOz o5) (p15.at fun o g => up _ o D.i1z g) (p25.at fun o g => up _ o D.i2z g) t8 size8 fun c o n1 n2 n3 n4 g => up c o n1 (keep5 c o n1 n2 n3 n4 g)
/-- its end, the tuple being free -/
theorem zfree_end {z TI TO i1 i2 a b : Addr} {f0 : Value} {f1 : Bool} {m n : Nat} {xs ys : Array Value} {u v : Value} {Q : Fin → Shared → Prop} (calm : A.handled = none) (D : ZipApart z TI TO i1 i2 a b) (pz : ZipX s.heap z TI TO f0 f1) (fr : FreeT s.heap f0)
    (pI : IsPair s.heap TI (.ref i1) (.ref i2)) (pO : IsPair s.heap TO u v) (p1 : s.heap.IsListIter i1 a m) (p2 : s.heap.IsListIter i2 b n) (la : s.heap.IsList a xs) (lb : s.heap.IsList b ys) (last : xs[m]? = none ∨ ys[n]? = none)
    (q : ∀ h' x, (∀ c o, c ≠ z → c ≠ TO → c ≠ i1 → c ≠ i2 → s.heap.get? c = some o → h'.get? c = some o) → (∃ o, h'.get? x = some o ∧ o.cls = .type "StopIteration") → E (.ref x) { s with heap := h' }) :
    wpAny (model P w) A (Builtin.«zip.__next__» ⟨[.ref z], []⟩) Q E s := by
  show wpAny _ _ (field (.ref z) 2 >>= _) _ _ _
  refine wpAny_bind (wpAny_field pz rfl (x := .bool false) rfl ?_)
  show wpAny _ _ (field (.ref z) 3 >>= _) _ _ _
  refine wpAny_bind (wpAny_field pz rfl (x := .ref TI) rfl (wpAny_bind (wpAny_seqItems pI rfl ?_)))
  show wpAny _ _ (Builtin.SmallTypes.ownedTupleIsFree (.ref z) >>= _) _ _ _
  refine wpAny_bind (owned_free pz fr ?_)
  simp only [if_true]
  refine wpAny_bind (wpAny_rule (wpAny_bind (wpAny_field pz rfl (x := .ref TO) rfl ?_)))
  refine wpAny_bind (wpAny_setField_rec pz (by simp) fun k1 z1 e1 => ?_)
  have z1 : ZipX k1 z TI TO .ellipsis f1 := z1
  refine wpAny_bind ?_
  simp only [List.zipIdx_cons, List.zipIdx_nil, List.forIn_cons, List.forIn_nil]
  refine wpAny_bind (wpAny_bind (wpAny_onRaise ?_))
  show wpAny _ _ (Builtin.SmallTypes.nextOf (.ref i1) >>= _) _ _ _
  have fin : ∀ (k : Heap) (x : Addr), ZipX k z TI TO .ellipsis f1 → (∃ o, k.get? x = some o ∧ o.cls = .type "StopIteration") → (∀ c o, c ≠ z → c ≠ TO → c ≠ i1 → c ≠ i2 → s.heap.get? c = some o → k.get? c = some o) →
      wpAny (model P w) A (setField (.ref z) 0 .none) (fun _ s' => E (.ref x) s') E { s with heap := k } := fun k x zk ⟨o, ho, hc⟩ keep => by
    have ne : x ≠ z := fun e => by
      rw [e, zk] at ho
      cases ho
      simp at hc
    exact wpAny_setField_rec zk (by simp) fun k' _ e' => q k' x (fun c o n1 n2 n3 n4 g => e'.extBut _ _ n1 (keep c o n1 n2 n3 n4 g)) ⟨o, e'.extBut _ _ ne ho, hc⟩
  cases ex : xs[m]? with
  | none =>
    refine wpAny_bind (wpAny_nextOf_list_end calm (p1.extBut e1.extBut D.i1z) (la.extBut e1.extBut D.l1z) ex fun k2 x e2 hx => ?_)
    exact fin k2 x (e2 _ _ D.i1z.symm z1) hx fun c o n1 _ n3 _ g => e2 _ _ n3 (e1.extBut _ _ n1 g)
  | some x =>
    have ey : ys[n]? = none := last.resolve_left (by rw [ex]; exact fun z => nomatch z)
    refine wpAny_bind (wpAny_nextOf_list_item (p1.extBut e1.extBut D.i1z) (la.extBut e1.extBut D.l1z) ex fun k2 g2 e2 => wpAny_pure ?_)
    have o2 : IsPair k2 TO u v := e2.extBut _ _ D.TOi1 (e1.extBut _ _ D.TOz pO)
    refine wpAny_bind (wpAny_seqItems o2 rfl (wpAny_bind (wpAny_updateSeq_pair o2 fun k3 o3 e3 => ?_)))
    refine wpAny_bind (wpAny_letGo (wpAny_pure (wpAny_bind (wpAny_bind (wpAny_onRaise ?_)))))
    show wpAny _ _ (Builtin.SmallTypes.nextOf (.ref i2) >>= _) _ _ _
    have p23 := ((p2.extBut e1.extBut D.i2z).extBut e2.extBut D.i12.symm).extBut e3.extBut D.TOi2.symm
    have lb3 := ((lb.extBut e1.extBut D.l2z).extBut e2.extBut D.l2i1).extBut e3.extBut D.l2TO
    refine wpAny_bind (wpAny_nextOf_list_end calm p23 lb3 ey fun k4 x e4 hx => ?_)
    exact fin k4 x (e4 _ _ D.i2z.symm (e3.extBut _ _ D.TOz.symm (e2.extBut _ _ D.i1z.symm z1))) hx fun c o n1 n2 n3 n4 g => e4 _ _ n4 (e3.extBut _ _ n2 (e2.extBut _ _ n3 (e1.extBut _ _ n1 g)))
end
/-- a zip of two lists at its i-th turn, whatever became of its tuple -/
def ZSt (z TI TO i1 i2 a b : Addr) (i : Nat) (h : Heap) : Prop := ∃ f0 f1, ZipX h z TI TO f0 f1 ∧ (f0 = .none ∨ ∃ T : Addr, f0 = rawInt T) ∧ IsPair h TI (.ref i1) (.ref i2) ∧ (∃ u v, IsPair h TO u v) ∧ h.IsListIter i1 a i ∧ h.IsListIter i2 b i
theorem ZSt.keep {z TI TO i1 i2 a b : Addr} {i : Nat} {h h' : Heap} (st : ZSt z TI TO i1 i2 a b i h) (k : ∀ c ∈ [z, TI, TO, i1, i2], ∀ o, h.get? c = some o → h'.get? c = some o) : ZSt z TI TO i1 i2 a b i h' := by
  obtain ⟨f0, f1, pz, ff, pI, ⟨u, v, pO⟩, p1, p2⟩ := st
  exact ⟨f0, f1, k z (by simp) _ pz, ff, k TI (by simp) _ pI, ⟨u, v, k TO (by simp) _ pO⟩, p1.at fun o e => k i1 (by simp) o e, p2.at fun o e => k i2 (by simp) o e⟩
theorem ZSt.lt {z TI TO i1 i2 a b : Addr} {i : Nat} {h : Heap} (st : ZSt z TI TO i1 i2 a b i h) : ∀ c ∈ [z, TI, TO, i1, i2], ∃ o, h.get? c = some o ∧ ∀ v, o.data ≠ .cell v := by
  obtain ⟨f0, f1, pz, ff, pI, ⟨u, v, pO⟩, ⟨o1, h1, _, d1⟩, ⟨o2, h2, _, d2⟩⟩ := st
  intro c hc
  have hc : c = z ∨ c = TI ∨ c = TO ∨ c = i1 ∨ c = i2 := by simpa using hc
  rcases hc with e | e | e | e | e
  · rw [e]; exact ⟨_, pz, fun v q => nomatch q⟩
  · rw [e]; exact ⟨_, pI, fun v q => nomatch q⟩
  · rw [e]; exact ⟨_, pO, fun v q => nomatch q⟩
  · rw [e]; exact ⟨o1, h1, fun v q => by rw [d1] at q; cases q⟩
  · rw [e]; exact ⟨o2, h2, fun v q => by rw [d2] at q; cases q⟩
section
variable {P : Program} {w : World} {A : Around} {E : Value → Shared → Prop} {s : Shared}
theorem zst_item {z TI TO i1 i2 a b : Addr} {i : Nat} {xs ys : Array Value} {x y : Value} {Q : Value → Shared → Prop} (D : ZipApart z TI TO i1 i2 a b) (st : ZSt z TI TO i1 i2 a b i s.heap) (la : s.heap.IsList a xs) (lb : s.heap.IsList b ys) (ex : xs[i]? = some x) (ey : ys[i]? = some y)
    (q : ∀ h', ZSt z TI TO i1 i2 a b (i + 1) h' → IsPair h' s.heap.objs.size x y → h'.objs.size = s.heap.objs.size + 1 → (∀ c o, c ∉ [z, TI, TO, i1, i2] → s.heap.get? c = some o → h'.get? c = some o) → Q (.ref s.heap.objs.size) { s with heap := h' }) :
    wpAny (model P w) A (Builtin.SmallTypes.nextOf (.ref z)) Q E s := by
  obtain ⟨f0, f1, pz, ff, pI, ⟨u, v, pO⟩, p1, p2⟩ := st
  have ty : s.TypeIs (.ref z) "zip" := ⟨_, pz, rfl⟩
  unfold Builtin.SmallTypes.nextOf
  refine wpAny_bind (wpAny_callSpecial?_slot (name := Str.ofString "__next__") ty F.slot_zip_next (wpAny_call_entry F.slot_zip_next ty F.entry_zip_next ?_ (F.args_zip_next_1 _)))
  have free : FreeT s.heap f0 → wpAny (model P w) A.in1 (Builtin.«zip.__next__» ⟨[.ref z], []⟩) (fun fin s' => ∃ v, fin = .done (.ret v) ∧ wpAny (model P w) A (pure v) Q E s') E s := fun fr =>
    zfree_item D pz fr pI pO p1 p2 la lb ex ey fun h' a1 a2 a3 a4 a5 a6 kp => wpAny_pure (q h' ⟨_, _, a1, .inr ⟨_, rfl⟩, kp _ _ D.TIz D.TITO D.TIi1 D.TIi2 pI, ⟨x, y, a2⟩, a3, a4⟩ a5 a6 fun c o nc e => kp c o (fun z => nc (by simp [z])) (fun z => nc (by simp [z])) (fun z => nc (by simp [z])) (fun z => nc (by simp [z])) e)
  rcases ff with rfl | ⟨T, rfl⟩
  · exact free (.inl rfl)
  · cases eT : s.heap.get? T with
    | none => exact free (.inr ⟨T, rfl, eT⟩)
    | some oT =>
      refine zip_next_item_held D pz eT pI p1 p2 la lb ex ey fun h' a1 a3 a4 a5 a6 kp => ?_
      exact wpAny_pure (q h' ⟨_, _, a1, .inr ⟨_, rfl⟩, kp _ _ D.TIz D.TIi1 D.TIi2 pI, ⟨u, v, kp _ _ D.TOz D.TOi1 D.TOi2 pO⟩, a3, a4⟩ a5 a6 fun c o nc e => kp c o (fun z => nc (by simp [z])) (fun z => nc (by simp [z])) (fun z => nc (by simp [z])) e)
theorem zst_end {z TI TO i1 i2 a b : Addr} {i : Nat} {xs ys : Array Value} {Q : Value → Shared → Prop} (calm : A.handled = none) (D : ZipApart z TI TO i1 i2 a b) (st : ZSt z TI TO i1 i2 a b i s.heap) (la : s.heap.IsList a xs) (lb : s.heap.IsList b ys) (last : xs[i]? = none ∨ ys[i]? = none)
    (q : ∀ h' x, (∀ c o, c ∉ [z, TI, TO, i1, i2] → s.heap.get? c = some o → h'.get? c = some o) → (∃ o, h'.get? x = some o ∧ o.cls = .type "StopIteration") → E (.ref x) { s with heap := h' }) :
    wpAny (model P w) A (Builtin.SmallTypes.nextOf (.ref z)) Q E s := by
  obtain ⟨f0, f1, pz, ff, pI, ⟨u, v, pO⟩, p1, p2⟩ := st
  have ty : s.TypeIs (.ref z) "zip" := ⟨_, pz, rfl⟩
  have calm1 : A.in1.handled = none := by simp [calm]
  unfold Builtin.SmallTypes.nextOf
  refine wpAny_bind (wpAny_callSpecial?_slot (name := Str.ofString "__next__") ty F.slot_zip_next (wpAny_call_entry F.slot_zip_next ty F.entry_zip_next ?_ (F.args_zip_next_1 _)))
  rcases ff with rfl | ⟨T, rfl⟩
  · exact zfree_end calm1 D pz (.inl rfl) pI pO p1 p2 la lb last fun h' x kp hx => q h' x (fun c o nc e => kp c o (fun z => nc (by simp [z])) (fun z => nc (by simp [z])) (fun z => nc (by simp [z])) (fun z => nc (by simp [z])) e) hx
  · cases eT : s.heap.get? T with
    | none => exact zfree_end calm1 D pz (.inr ⟨T, rfl, eT⟩) pI pO p1 p2 la lb last fun h' x kp hx => q h' x (fun c o nc e => kp c o (fun z => nc (by simp [z])) (fun z => nc (by simp [z])) (fun z => nc (by simp [z])) (fun z => nc (by simp [z])) e) hx
    | some oT => exact zip_next_end_held calm1 D pz eT pI p1 p2 la lb last fun h' x kp hx => q h' x (fun c o nc e => kp c o (fun z => nc (by simp [z])) (fun z => nc (by simp [z])) (fun z => nc (by simp [z])) e) hx
/-- the next of an enumerate whose own tuple is let go, over whatever tells its next -/
theorem enum_over {e it : Addr} {i : Nat} {old : Value} {R : Value → Heap → Prop} {Q : Option Value → Shared → Prop} (pe : IsEnum s.heap e it i old)
    (next : ∀ (Q' : Value → Shared → Prop) (E' : Value → Shared → Prop), (∀ x h1, R x h1 → Q' x { s with heap := h1 }) → wpAny (model P w) A.in1 (Builtin.SmallTypes.nextOf (.ref it)) Q' E' s)
    (stay : ∀ x h1, R x h1 → IsEnum h1 e it i old)
    (q : ∀ x h1 h' tk, R x h1 → IsEnumOut h' e it ((i : Int) + 1) x h1.objs.size → h'.get? h1.objs.size = some { cls := .type "tuple", data := .seq #[.int i tk, x] } → (∀ c o, c ≠ e → h1.get? c = some o → h'.get? c = some o) → Q (some (.ref h1.objs.size)) { s with heap := h', toks := tk + 1 }) :
    wpAny (model P w) A (pyNext (.ref e)) Q E s := by
  have ty : s.TypeIs (.ref e) "enumerate" := ⟨_, pe, rfl⟩
  unfold pyNext
  refine wpAny_bind (wpAny_attempt (wpAny_callSpecial?_slot (name := Str.ofString "__next__") ty F.slot_enumerate_next (wpAny_call_entry F.slot_enumerate_next ty F.entry_enumerate_next ?_ (F.args_enumerate_next_1 _))))
  obtain ⟨hp, g, d, tk, os⟩ := s
  show wpAny _ _ (field (.ref e) 2 >>= _) _ _ _
  refine wpAny_bind (wpAny_field pe rfl (x := .ref it) rfl (wpAny_bind (next _ _ fun x h1 rx => ?_)))
  have pe1 := stay x h1 rx
  show wpAny _ _ (field (.ref e) 3 >>= _) _ _ ⟨h1, g, d, tk, os⟩
  refine wpAny_bind (wpAny_field pe1 rfl (x := rawInt i) rfl ?_)
  show wpAny _ _ (field (.ref e) 4 >>= _) _ _ ⟨h1, g, d, tk, os⟩
  refine wpAny_bind (wpAny_field pe1 rfl (x := .none) rfl ?_)
  show wpAny _ _ (mkInt i >>= _) _ _ ⟨h1, g, d, tk, os⟩
  refine wpAny_bind (wpAny_mkInt ?_)
  show wpAny _ _ (setField (.ref e) 3 (rawInt ((i : Int) + 1)) >>= _) _ _ ⟨h1, g, d, tk + 1, os⟩
  refine wpAny_bind (wpAny_setField_rec pe1 (by simp) fun h2 pe2 b2 => ?_)
  have pe2 : IsEnum h2 e it ((i : Int) + 1) old := pe2
  have b2 : Heap.SameBut e h1 h2 := b2
  show wpAny _ _ (setField (.ref e) 4 .none >>= _) _ _ ⟨h2, g, d, tk + 1, os⟩
  refine wpAny_bind (wpAny_setField_rec pe2 (by simp) fun h3 pe3 b3 => ?_)
  have pe3 : IsEnum h3 e it ((i : Int) + 1) old := pe3
  have b3 : Heap.SameBut e h2 h3 := b3
  show wpAny _ _ (newTuple [.int i tk, x] >>= _) _ _ ⟨h3, g, d, tk + 1, os⟩
  refine wpAny_bind (wpAny_newTuple ?_)
  have size : h3.objs.size = h1.objs.size := by rw [b3.1, b2.1]
  have elt : e < h1.objs.size := Heap.lt_size pe1
  have pe4 : IsEnum (h3.push { cls := .type "tuple", data := .seq #[.int i tk, x] }) e it ((i : Int) + 1) old := Heap.get?_push_of_some _ pe3
  have t4 : (h3.push { cls := .type "tuple", data := .seq #[.int i tk, x] }).get? h1.objs.size = some { cls := .type "tuple", data := .seq #[.int i tk, x] } := by rw [← size]; exact Heap.get?_push_size _ rfl
  have keep4 : ∀ c o, c ≠ e → h1.get? c = some o → (h3.push { cls := .type "tuple", data := .seq #[.int i tk, x] }).get? c = some o := fun c o n y => Heap.get?_push_of_some _ (b3.extBut c o n (b2.extBut c o n y))
  show wpAny _ _ (Builtin.SmallTypes.ownedTupleIsFree (.ref e) >>= _) _ _ ⟨h3.push { cls := .type "tuple", data := .seq #[.int i tk, x] }, g, d, tk + 1, os⟩
  rw [size]
  generalize h3.push { cls := .type "tuple", data := .seq #[.int i tk, x] } = h4 at pe4 t4 keep4
  refine wpAny_bind ?_
  unfold Builtin.SmallTypes.ownedTupleIsFree
  refine wpAny_bind (wpAny_field pe4 rfl (x := .none) rfl (wpAny_pure ?_))
  simp only [if_true]
  refine wpAny_bind (wpAny_rule (wpAny_bind (wpAny_field pe4 rfl (x := old) rfl ?_)))
  refine wpAny_bind (wpAny_setField_rec pe4 (by simp) fun h5 pe5 b5 => ?_)
  have pe5 : IsEnum h5 e it ((i : Int) + 1) x := pe5
  have b5 : Heap.SameBut e h4 h5 := b5
  show wpAny _ _ (Builtin.SmallTypes.ownedTupleHandOut (.ref e) (.ref h1.objs.size) >>= _) _ _ ⟨h5, g, d, tk + 1, os⟩
  refine wpAny_bind ?_
  unfold Builtin.SmallTypes.ownedTupleHandOut
  refine wpAny_bind (wpAny_setField_rec pe5 (by simp) fun h6 pe6 b6 => ?_)
  have pe6 : IsEnumOut h6 e it ((i : Int) + 1) x h1.objs.size := pe6
  have b6 : Heap.SameBut e h5 h6 := b6
  refine wpAny_setField_rec pe6 (by simp) fun h7 pe7 b7 => ?_
  have pe7 : IsEnumOut h7 e it ((i : Int) + 1) x h1.objs.size := pe7
  have b7 : Heap.SameBut e h6 h7 := b7
  have all : ∀ c o, c ≠ e → h4.get? c = some o → h7.get? c = some o := fun c o n y => b7.extBut c o n (b6.extBut c o n (b5.extBut c o n y))
  exact wpAny_bind (wpAny_letGo (wpAny_pure ⟨_, rfl, wpAny_pure (q x h1 h7 tk rx pe7 (all _ _ (Nat.ne_of_gt elt) t4) fun c o n y => all c o n (keep4 c o n y))⟩))
theorem enum_over_end {e it : Addr} {i : Int} {old : Value} {R : Heap → Prop} {Q : Option Value → Shared → Prop} (pe : IsEnum s.heap e it i old)
    (next : ∀ (Q' : Value → Shared → Prop) (E' : Value → Shared → Prop), (∀ h1 x, R h1 → (∃ o, h1.get? x = some o ∧ o.cls = .type "StopIteration") → E' (.ref x) { s with heap := h1 }) → wpAny (model P w) A.in1 (Builtin.SmallTypes.nextOf (.ref it)) Q' E' s)
    (q : ∀ h1, R h1 → Q none { s with heap := h1 }) : wpAny (model P w) A (pyNext (.ref e)) Q E s := by
  have ty : s.TypeIs (.ref e) "enumerate" := ⟨_, pe, rfl⟩
  unfold pyNext
  refine wpAny_bind (wpAny_attempt (wpAny_callSpecial?_slot (name := Str.ofString "__next__") ty F.slot_enumerate_next (wpAny_call_entry F.slot_enumerate_next ty F.entry_enumerate_next ?_ (F.args_enumerate_next_1 _))))
  show wpAny _ _ (field (.ref e) 2 >>= _) _ _ _
  refine wpAny_bind (wpAny_field pe rfl (x := .ref it) rfl (wpAny_bind (next _ _ fun h1 x r ⟨o, ho, hc⟩ => ?_)))
  refine wpAny_bind (wpAny_isInstance (T := "StopIteration") (b := true) ⟨o, ho, hc⟩ isSubtype_stop ?_)
  exact wpAny_pure (q h1 r)
end
theorem enum_newZ (z TI TO : Addr) : Meets (Builtin.«enumerate.__new__» ⟨[.type "enumerate", .ref z], []⟩) (fun _ R s => IsZip s.heap z TI TO .none ∧
    R (.ok (.ret (.ref s.heap.objs.size))) { s with heap := s.heap.push { cls := .type "enumerate", data := .fields #[.none, .bool false, .ref z, rawInt 0, .none, .none] } }) :=
  .of_wp fun prog w A R s h => by
    obtain ⟨hp, g, d, tk, os⟩ := s
    obtain ⟨hl, h⟩ := h
    have hsub := sub_enumerate
    have pz : IsZip (Shared.heap ⟨hp, g, d, tk, os⟩) z TI TO .none := hl
    wp_walk using AutoSeq1.wpAny_loadPart' hl
    refine wpAny_stack_any fun st => wpAny_pure ?_
    split
    · rename_i c _ _ _ _ _
      cases (c == Value.type "enumerate") <;> (wp_walk using AutoSeq1.wpAny_loadPart' hl, wpAny_pyIter_zip pz; exact ⟨_, rfl, h⟩)
    · wp_walk using AutoSeq1.wpAny_loadPart' hl, wpAny_pyIter_zip pz
      exact ⟨_, rfl, h⟩
theorem enum_callZ {prog : Program} {w : World} {A : Around} {E : Value → Shared → Prop} {s : Shared} {z TI TO : Addr} {Q : Value → Shared → Prop} (pz : IsZip s.heap z TI TO .none)
    (q : ∀ h', IsEnum h' s.heap.objs.size z 0 .none → (∀ b o, s.heap.get? b = some o → h'.get? b = some o) → Q (.ref s.heap.objs.size) { s with heap := h' }) :
    wpAny (model prog w) A (call (.type "enumerate") [.ref z]) Q E s := by
  refine callType_new F.called_enumerate (by decide) (F.typeCall_enumerate_1 _) (F.newCall_enumerate_1 _) (fun obj => F.args_object_init_2 obj _) F.entry_enumerate_new (enum_newZ z TI TO) ⟨pz, ?_⟩
  have pe : IsEnum (s.heap.push { cls := .type "enumerate", data := .fields #[.none, .bool false, .ref z, rawInt 0, .none, .none] }) s.heap.objs.size z 0 .none := Heap.get?_push_size _ rfl
  exact ⟨⟨_, pe, rfl⟩, q _ pe fun b o x => Heap.get?_push_of_some _ x⟩
/-- the i-th turn: a new pair of i and a new pair of the two items -/
def Itez (K : PySem.W.Frag) (a b : Addr) : It :=
  ⟨fun i H => ∃ (xs ys : List V) (x y : V), SqL K H a xs ∧ SqL K H b ys ∧ xs[i]? = some x ∧ ys[i]? = some y,
    fun i H v H' => ∃ T U x y, v = .ref T ∧ H U = none ∧ (upd H U (.tup [x, y])) T = none ∧ H' = upd (upd H U (.tup [x, y])) T (.tup [.int (i : Nat), .ref U]) ∧ (∀ xs, SqL K H a xs → xs[i]? = some x) ∧ ∀ ys, SqL K H b ys → ys[i]? = some y,
    fun i H => ∃ xs ys : List V, SqL K H a xs ∧ SqL K H b ys ∧ (xs.length ≤ i ∨ ys.length ≤ i)⟩
theorem turn_ez {P : Program} {w : World} {K : PySem.W.Frag} {elts : List Expr} {kk : Nat} {tpos : Pos} {a b e z TI TO i1 i2 : Addr} (D : ZipApart z TI TO i1 i2 a b) (ne : e ∉ [z, TI, TO, i1, i2]) :
    Turn P w K (.Tuple elts kk tpos) (Itez K a b) (e :: [z, TI, TO, i1, i2]) e (fun i h => (∃ old, IsEnum h e z ((i : Nat) : Int) old) ∧ ZSt z TI TO i1 i2 a b i h) where
  mem := List.mem_cons_self
  obj := fun i h st c hc => by
    obtain ⟨⟨old, pe⟩, zs⟩ := st
    rcases List.mem_cons.mp hc with q | q
    · rw [q]; exact ⟨_, pe, fun v q => nomatch q⟩
    · exact zs.lt c q
  keep := fun i h h' st k => by
    obtain ⟨⟨old, pe⟩, zs⟩ := st
    exact ⟨⟨old, k e List.mem_cons_self _ pe⟩, zs.keep fun c hc => k c (List.mem_cons_of_mem _ hc)⟩
  item := by
    intro X hP hw hK hc i pins s σ H E I hf st hg
    subst hP hw hK
    obtain ⟨⟨old, pe⟩, zs⟩ := st
    obtain ⟨xs, ys, x, y, hqx, hqy, hx, hy⟩ := hg
    obtain ⟨its, rv, p, _⟩ := I.list hqx
    obtain ⟨its2, rv2, p2, _⟩ := I.list hqy
    obtain ⟨u, hu, ru⟩ := rv.get hx
    obtain ⟨u2, hu2, ru2⟩ := rv2.get hy
    have elt : e < s.heap.objs.size := Heap.lt_size pe
    have zlt : ∀ c ∈ [z, TI, TO, i1, i2], c < s.heap.objs.size := fun c hc => by
      obtain ⟨o, ho, _⟩ := zs.lt c hc
      exact Heap.lt_size ho
    refine enum_over (R := fun v h1 => v = .ref s.heap.objs.size ∧ ZSt z TI TO i1 i2 a b (i + 1) h1 ∧ IsPair h1 s.heap.objs.size u u2 ∧ h1.objs.size = s.heap.objs.size + 1 ∧ ∀ c o, c ∉ [z, TI, TO, i1, i2] → s.heap.get? c = some o → h1.get? c = some o) pe
      (fun Q' E' hq => zst_item D zs p.isList p2.isList (by simpa using hu) (by simpa using hu2) fun h1 a1 a2 a3 a4 => hq _ h1 ⟨rfl, a1, a2, a3, a4⟩) (fun v h1 r => r.2.2.2.2 e _ ne pe) fun v h1 h' tk r pe' tp k2 => ?_
    obtain ⟨ev, z1, pr, sz, k1⟩ := r
    subst ev
    refine ⟨_, rfl, wpAny_letOwnedTupleGo_enum (s := { s with heap := h', toks := tk + 1 }) pe' fun h'' pe'' sb => ?_⟩
    have sb : Heap.SameBut e h' h'' := sb
    have k3 : ∀ c o, c ≠ e → h1.get? c = some o → h''.get? c = some o := fun c o n q => (sb.2 c n).trans (k2 c o n q)
    have ult : s.heap.objs.size < h1.objs.size := by rw [sz]; exact Nat.lt_succ_self _
    have elt1 : e < h1.objs.size := Nat.lt_trans elt ult
    have new1 : ObjOk X.prog X.w (upd H s.heap.objs.size (.tup [x, y])) h1 s.heap.objs.size (.tup [x, y]) := ⟨by show 2 ≤ sizeLine; decide, [u, u2], .cons ru (.cons ru2 .nil), ⟨_, pr, rfl, _, rfl⟩⟩
    have I1 : Inv X pins σ (upd H s.heap.objs.size (.tup [x, y])) { s with heap := h1, toks := s.toks } :=
      I.turnedNew (t' := s.toks) (ch := [z, TI, TO, i1, i2]) k1 (fun c hc => hf c (List.mem_cons_of_mem _ hc)) (Nat.le_refl _) new1
    have t2 : h''.get? h1.objs.size = some { cls := .type "tuple", data := .seq #[.int i tk, .ref s.heap.objs.size] } := (sb.2 _ (Nat.ne_of_gt elt1)).trans tp
    have new2 : ObjOk X.prog X.w (upd (upd H s.heap.objs.size (.tup [x, y])) h1.objs.size (.tup [.int (i : Nat), .ref s.heap.objs.size])) h'' h1.objs.size (.tup [.int (i : Nat), .ref s.heap.objs.size]) :=
      ⟨by show 2 ≤ sizeLine; decide, [.int i tk, .ref s.heap.objs.size], .cons ⟨_, rfl⟩ (.cons rfl .nil), ⟨_, t2, rfl, _, rfl⟩⟩
    have I2 : Inv X pins σ (upd (upd H s.heap.objs.size (.tup [x, y])) h1.objs.size (.tup [.int (i : Nat), .ref s.heap.objs.size])) { s with heap := h'', toks := tk + 1 } :=
      I1.turnedNew (t' := tk + 1) (ch := [e]) (fun c o nc q => k3 c o (fun z => nc (by rw [z]; exact List.mem_cons_self)) q) (fun c hc => by
        rw [List.mem_singleton.mp hc]
        obtain ⟨f0, f1⟩ := hf e List.mem_cons_self
        exact ⟨by rw [upd_ne (Nat.ne_of_lt elt)]; exact f0, f1⟩) (Nat.le_refl _) new2
    refine ⟨.ref h1.objs.size, _, I2, rfl, ⟨_, _, x, y, rfl, I.hok.fresh (Nat.le_refl _), I1.hok.fresh (Nat.le_refl _), rfl, fun l hl => by rw [I.list_inj hl hqx]; exact hx, fun l hl => by rw [I.list_inj hl hqy]; exact hy⟩, ⟨⟨_, pe''⟩, z1.keep fun c hc o q => k3 c o (fun z => ne (z ▸ hc)) q⟩, fun c hc => ?_⟩
    have clt : c < s.heap.objs.size := by
      rcases List.mem_cons.mp hc with q | q
      · rw [q]; exact elt
      · exact zlt c q
    rw [upd_ne (Nat.ne_of_lt (Nat.lt_trans clt ult)), upd_ne (Nat.ne_of_lt clt)]
    exact (hf c hc).1
  done := by
    intro X hP hw hK hc i pins s σ H E I hf st hg
    subst hP hw hK
    obtain ⟨⟨old, pe⟩, zs⟩ := st
    obtain ⟨xs, ys, hqx, hqy, hend⟩ := hg
    obtain ⟨its, rv, p, _⟩ := I.list hqx
    obtain ⟨its2, rv2, p2, _⟩ := I.list hqy
    have l1 := rv.length
    have l2 := rv2.length
    have last : its.toArray[i]? = none ∨ its2.toArray[i]? = none := hend.imp (fun q => by simp; omega) (fun q => by simp; omega)
    exact enum_over_end (R := fun h1 => ∀ c o, c ∉ [z, TI, TO, i1, i2] → s.heap.get? c = some o → h1.get? c = some o) pe
      (fun Q' E' hq => zst_end (by simp [I.ok.hd hc]) D zs p.isList p2.isList last fun h' x kp hx => hq h' x kp hx)
      fun h1 kp => ⟨rfl, I.turnedL (t' := s.toks) (ch := [z, TI, TO, i1, i2]) kp fun c hc => hf c (List.mem_cons_of_mem _ hc)⟩
  self := fun A i s Q E st h => let ⟨⟨_, pe⟩, _⟩ := st; wpAny_pyIter_enum pe h
def iEZ (K : PySem.W.Frag) (ta : TA) : TI := fun σ H R => ta σ H fun vs H1 => ∃ a b xs ys, vs = [.ref a, .ref b] ∧ SqL K H1 a xs ∧ SqL K H1 b ys ∧ R (Itez K a b) H1
theorem pi_ez {X : Cx} {e e2 : Expr} {ta : TA} {p pos p0 pos0 tpos : Pos} {elts : List Expr} {kk : Nat} (hg0 : Gl X "enumerate") (hm0 : X.mg "enumerate" = none) (hg : Gl X "zip") (hm : X.mg "zip" = none) (ha : PA X [e, e2] ta)
    (hs0 : starEach [.Call (.Name "zip" p) [e, e2] [] pos] X.env = [(false, eval (.Call (.Name "zip" p) [e, e2] [] pos) X.env)] := by rfl)
    (hs : starEach [e, e2] X.env = (false, eval e X.env) :: starEach [e2] X.env := by rfl) (hpl : (backTo pos (starEach [e2] X.env)).any (·.1) = false := by rfl) :
    PI X (.Tuple elts kk tpos) (.Call (.Name "enumerate" p0) [.Call (.Name "zip" p) [e, e2] [] pos] [] pos0) (iEZ X.K ta) := by
  refine ⟨fun pins s σ H R I h => ?_⟩
  refine Call_ (ld_blt I hg0 hm0 boot_enumerate (PyProof.Rows.callWith_type1 ?_ hs0 rfl))
  rw [hs0]
  show wpAny _ _ (spliced ((false, eval (.Call (.Name "zip" p) [e, e2] [] pos) X.env) :: backTo pos0 [])) _ _ s
  refine Calls.spliced_cons ?_
  refine Call_ (ld_blt I hg hm PyProof.Rows.boot_zip (PyProof.Rows.callWith_type1 (thn (ha.run pos pins s σ H _ I h) fun us s1 ⟨vs, H1, I1, r1, q1⟩ => ?_) hs hpl))
  obtain ⟨a, b, xs, ys, ex, hqx, hqy, q⟩ := q1
  subst ex
  cases r1 with
  | cons r rr =>
    cases rr with
    | cons r' rr =>
      cases rr
      cases r
      cases r'
      obtain ⟨its, rv, p1, _⟩ := I1.list hqx
      obtain ⟨its2, rv2, p2, _⟩ := I1.list hqy
      have la : a < s1.heap.objs.size := p1.lt
      have lb : b < s1.heap.objs.size := p2.lt
      refine call_zip_2 p1.isList p2.isList fun h' pz pI pO g1 g2 size keep => Calls.spliced_nil ?_
      refine enum_callZ (s := { s1 with heap := h' }) pz fun h'' pe keep2 => wpAny_pyIter_enum pe ?_
      have I2 : Inv X pins σ H1 { s1 with heap := h'' } := I1.kept (t' := s1.toks) fun b o x => keep2 b o (keep b o x)
      have hsz : h'.objs.size = s1.heap.objs.size + 5 := size
      have D := PySem.W.ktu_apart s1.heap.objs.size a b la lb
      refine ⟨h'.objs.size, h'.objs.size :: [s1.heap.objs.size + 4, s1.heap.objs.size + 2, s1.heap.objs.size + 3, s1.heap.objs.size, s1.heap.objs.size + 1], _, _, H1, rfl, I2, turn_ez D ?_, ⟨⟨.none, pe⟩, ?_⟩, fun c hc => ?_, q⟩
      · rw [hsz]
        intro hc
        have hc : (s1.heap.objs.size + 5 : Nat) = s1.heap.objs.size + 4 ∨ (s1.heap.objs.size + 5 : Nat) = s1.heap.objs.size + 2 ∨ (s1.heap.objs.size + 5 : Nat) = s1.heap.objs.size + 3 ∨ (s1.heap.objs.size + 5 : Nat) = s1.heap.objs.size ∨ (s1.heap.objs.size + 5 : Nat) = s1.heap.objs.size + 1 := by simpa using hc
        omega
      · exact (show ZSt _ _ _ _ _ a b 0 h' from ⟨.none, false, pz, .inl rfl, pI, ⟨_, _, pO⟩, g1, g2⟩).keep fun c _ o x => keep2 c o x
      · have le : s1.heap.objs.size ≤ c := by
          rcases List.mem_cons.mp hc with e | e
          · rw [e, hsz]; exact Nat.le_add_right _ _
          · have e : c = s1.heap.objs.size + 4 ∨ c = s1.heap.objs.size + 2 ∨ c = s1.heap.objs.size + 3 ∨ c = s1.heap.objs.size ∨ c = s1.heap.objs.size + 1 := by simpa using e
            rcases e with z | z | z | z | z <;> rw [z] <;> first | exact Nat.le_add_right _ _ | exact Nat.le_refl _
        exact I1.fpOk le (I1.hok.fresh le)
/-! ### for i, (x, y) in enumerate(zip(xs, ys)), xs and ys tuples -/
section
variable {P : Program} {w : World} {A : Around} {E : Value → Shared → Prop} {s : Shared}
/-- the next pair, the zip's tuple being free -/
theorem zfree_itemT {z TI TO i1 i2 a b : Addr} {f0 : Value} {f1 : Bool} {m n : Nat} {xs ys : Array Value} {x y u v : Value} {Q : Value → Shared → Prop} (D : ZipApart z TI TO i1 i2 a b) (pz : ZipX s.heap z TI TO f0 f1) (fr : FreeT s.heap f0)
    (pI : IsPair s.heap TI (.ref i1) (.ref i2)) (pO : IsPair s.heap TO u v) (p1 : s.heap.IsTupleIter i1 a m) (p2 : s.heap.IsTupleIter i2 b n) (la : s.heap.IsTuple a xs) (lb : s.heap.IsTuple b ys) (ex : xs[m]? = some x) (ey : ys[n]? = some y)
    (q : ∀ h', IsZip h' z TI TO (rawInt s.heap.objs.size) → IsPair h' TO x y → h'.IsTupleIter i1 a (m + 1) → h'.IsTupleIter i2 b (n + 1) → IsPair h' s.heap.objs.size x y → h'.objs.size = s.heap.objs.size + 1 →
      (∀ c o, c ≠ z → c ≠ TO → c ≠ i1 → c ≠ i2 → s.heap.get? c = some o → h'.get? c = some o) → Q (.ref s.heap.objs.size) { s with heap := h' }) :
    wpAny (model P w) A (Builtin.«zip.__next__» ⟨[.ref z], []⟩) (fun fin s' => ∃ v, fin = .done (.ret v) ∧ Q v s') E s := by
  show wpAny _ _ (field (.ref z) 2 >>= _) _ _ _
  refine wpAny_bind (wpAny_field pz rfl (x := .bool false) rfl ?_)
  show wpAny _ _ (field (.ref z) 3 >>= _) _ _ _
  refine wpAny_bind (wpAny_field pz rfl (x := .ref TI) rfl (wpAny_bind (wpAny_seqItems pI rfl ?_)))
  show wpAny _ _ (Builtin.SmallTypes.ownedTupleIsFree (.ref z) >>= _) _ _ _
  refine wpAny_bind (owned_free pz fr ?_)
  simp only [if_true]
  refine wpAny_bind (wpAny_rule (wpAny_bind (wpAny_field pz rfl (x := .ref TO) rfl ?_)))
  refine wpAny_bind (wpAny_setField_rec pz (by simp) fun k1 z1 e1 => ?_)
  have z1 : ZipX k1 z TI TO .ellipsis f1 := z1
  refine wpAny_bind ?_
  simp only [List.zipIdx_cons, List.zipIdx_nil, List.forIn_cons, List.forIn_nil]
  refine wpAny_bind (wpAny_bind (wpAny_onRaise ?_))
  show wpAny _ _ (Builtin.SmallTypes.nextOf (.ref i1) >>= _) _ _ _
  refine wpAny_bind (RZ.nextOf_tuple_item (p1.extBut e1.extBut D.i1z) (la.extBut e1.extBut D.l1z) ex fun k2 g2 e2 => wpAny_pure ?_)
  have o2 : IsPair k2 TO u v := e2.extBut _ _ D.TOi1 (e1.extBut _ _ D.TOz pO)
  refine wpAny_bind (wpAny_seqItems o2 rfl (wpAny_bind (wpAny_updateSeq_pair o2 fun k3 o3 e3 => ?_)))
  have o3 : IsPair k3 TO x v := o3
  refine wpAny_bind (wpAny_letGo (wpAny_pure (wpAny_bind (wpAny_bind (wpAny_onRaise ?_)))))
  show wpAny _ _ (Builtin.SmallTypes.nextOf (.ref i2) >>= _) _ _ _
  have p23 := ((p2.extBut e1.extBut D.i2z).extBut e2.extBut D.i12.symm).extBut e3.extBut D.TOi2.symm
  have lb3 := ((lb.extBut e1.extBut D.l2z).extBut e2.extBut D.l2i1).extBut e3.extBut D.l2TO
  refine wpAny_bind (RZ.nextOf_tuple_item p23 lb3 ey fun k4 g4 e4 => wpAny_pure ?_)
  have o4 : IsPair k4 TO x v := e4.extBut _ _ D.TOi2 o3
  refine wpAny_bind (wpAny_seqItems o4 rfl (wpAny_bind (wpAny_updateSeq_pair o4 fun k5 o5 e5 => ?_)))
  have o5 : IsPair k5 TO x y := o5
  refine wpAny_bind (wpAny_letGo (wpAny_pure (wpAny_pure ?_)))
  refine wpAny_bind (wpAny_seqItems o5 rfl (wpAny_bind (wpAny_newTuple ?_)))
  have size : k5.objs.size = s.heap.objs.size := by rw [e5.1, e4.1, e3.1, e2.1, e1.1]
  have z5 : ZipX k5 z TI TO .ellipsis f1 := e5.extBut _ _ D.TOz.symm (e4.extBut _ _ D.i2z.symm (e3.extBut _ _ D.TOz.symm (e2.extBut _ _ D.i1z.symm z1)))
  have keep5 : ∀ c o, c ≠ z → c ≠ TO → c ≠ i1 → c ≠ i2 → s.heap.get? c = some o → k5.get? c = some o := fun c o n1 n2 n3 n4 g => e5.extBut _ _ n2 (e4.extBut _ _ n4 (e3.extBut _ _ n2 (e2.extBut _ _ n3 (e1.extBut _ _ n1 g))))
  have p15 : k5.IsTupleIter i1 a (m + 1) := ((g2.extBut e3.extBut D.TOi1.symm).extBut e4.extBut D.i12).extBut e5.extBut D.TOi1.symm
  have p25 : k5.IsTupleIter i2 b (n + 1) := g4.extBut e5.extBut D.TOi2.symm
  have zlt : z < k5.objs.size := Heap.lt_size z5
  show wpAny _ _ (Builtin.SmallTypes.ownedTupleHandOut (.ref z) (.ref k5.objs.size) >>= _) _ _ _
  refine wpAny_bind ?_
  unfold Builtin.SmallTypes.ownedTupleHandOut
  have z6 : ZipX (k5.push { cls := .type "tuple", data := .seq #[x, y] }) z TI TO .ellipsis f1 := Heap.get?_push_of_some _ z5
  refine wpAny_bind (wpAny_setField_rec z6 (by simp) fun k7 z7 e7 => ?_)
  have z7 : ZipX k7 z TI TO (rawInt k5.objs.size) f1 := z7
  refine wpAny_setField_rec z7 (by simp) fun k8 z8 e8 => ?_
  have z8 : IsZip k8 z TI TO (rawInt k5.objs.size) := z8
  have up : ∀ c o, c ≠ z → k5.get? c = some o → k8.get? c = some o := fun c o n1 g => e8.extBut _ _ n1 (e7.extBut _ _ n1 (Heap.get?_push_of_some _ g))
  have t8 : IsPair k8 k5.objs.size x y := e8.extBut _ _ (Nat.ne_of_gt zlt) (e7.extBut _ _ (Nat.ne_of_gt zlt) (Heap.get?_push_size _ rfl))
  have size8 : k8.objs.size = k5.objs.size + 1 := by rw [e8.1, e7.1, Heap.size_push]
  rw [size] at z8 t8 size8
  refine wpAny_pure ⟨_, rfl, ?_⟩
  show Q (.ref k5.objs.size) _
  rw [size]
  exact q k8 z8 (up _ _ D.TOz o5) (p15.at fun o g => up _ o D.i1z g) (p25.at fun o g => up _ o D.i2z g) t8 size8 fun c o n1 n2 n3 n4 g => up c o n1 (keep5 c o n1 n2 n3 n4 g)
/-- its end, the tuple being free -/
theorem zfree_endT {z TI TO i1 i2 a b : Addr} {f0 : Value} {f1 : Bool} {m n : Nat} {xs ys : Array Value} {u v : Value} {Q : Fin → Shared → Prop} (calm : A.handled = none) (D : ZipApart z TI TO i1 i2 a b) (pz : ZipX s.heap z TI TO f0 f1) (fr : FreeT s.heap f0)
    (pI : IsPair s.heap TI (.ref i1) (.ref i2)) (pO : IsPair s.heap TO u v) (p1 : s.heap.IsTupleIter i1 a m) (p2 : s.heap.IsTupleIter i2 b n) (la : s.heap.IsTuple a xs) (lb : s.heap.IsTuple b ys) (last : xs[m]? = none ∨ ys[n]? = none)
    (q : ∀ h' x, (∀ c o, c ≠ z → c ≠ TO → c ≠ i1 → c ≠ i2 → s.heap.get? c = some o → h'.get? c = some o) → (∃ o, h'.get? x = some o ∧ o.cls = .type "StopIteration") → E (.ref x) { s with heap := h' }) :
    wpAny (model P w) A (Builtin.«zip.__next__» ⟨[.ref z], []⟩) Q E s := by
  show wpAny _ _ (field (.ref z) 2 >>= _) _ _ _
  refine wpAny_bind (wpAny_field pz rfl (x := .bool false) rfl ?_)
  show wpAny _ _ (field (.ref z) 3 >>= _) _ _ _
  refine wpAny_bind (wpAny_field pz rfl (x := .ref TI) rfl (wpAny_bind (wpAny_seqItems pI rfl ?_)))
  show wpAny _ _ (Builtin.SmallTypes.ownedTupleIsFree (.ref z) >>= _) _ _ _
  refine wpAny_bind (owned_free pz fr ?_)
  simp only [if_true]
  refine wpAny_bind (wpAny_rule (wpAny_bind (wpAny_field pz rfl (x := .ref TO) rfl ?_)))
  refine wpAny_bind (wpAny_setField_rec pz (by simp) fun k1 z1 e1 => ?_)
  have z1 : ZipX k1 z TI TO .ellipsis f1 := z1
  refine wpAny_bind ?_
  simp only [List.zipIdx_cons, List.zipIdx_nil, List.forIn_cons, List.forIn_nil]
  refine wpAny_bind (wpAny_bind (wpAny_onRaise ?_))
  show wpAny _ _ (Builtin.SmallTypes.nextOf (.ref i1) >>= _) _ _ _
  have fin : ∀ (k : Heap) (x : Addr), ZipX k z TI TO .ellipsis f1 → (∃ o, k.get? x = some o ∧ o.cls = .type "StopIteration") → (∀ c o, c ≠ z → c ≠ TO → c ≠ i1 → c ≠ i2 → s.heap.get? c = some o → k.get? c = some o) →
      wpAny (model P w) A (setField (.ref z) 0 .none) (fun _ s' => E (.ref x) s') E { s with heap := k } := fun k x zk ⟨o, ho, hc⟩ keep => by
    have ne : x ≠ z := fun e => by
      rw [e, zk] at ho
      cases ho
      simp at hc
    exact wpAny_setField_rec zk (by simp) fun k' _ e' => q k' x (fun c o n1 n2 n3 n4 g => e'.extBut _ _ n1 (keep c o n1 n2 n3 n4 g)) ⟨o, e'.extBut _ _ ne ho, hc⟩
  cases ex : xs[m]? with
  | none =>
    refine wpAny_bind (RZ.nextOf_tuple_end calm (p1.extBut e1.extBut D.i1z) (la.extBut e1.extBut D.l1z) ex fun k2 x e2 hx => ?_)
    exact fin k2 x (e2 _ _ D.i1z.symm z1) hx fun c o n1 _ n3 _ g => e2 _ _ n3 (e1.extBut _ _ n1 g)
  | some x =>
    have ey : ys[n]? = none := last.resolve_left (by rw [ex]; exact fun z => nomatch z)
    refine wpAny_bind (RZ.nextOf_tuple_item (p1.extBut e1.extBut D.i1z) (la.extBut e1.extBut D.l1z) ex fun k2 g2 e2 => wpAny_pure ?_)
    have o2 : IsPair k2 TO u v := e2.extBut _ _ D.TOi1 (e1.extBut _ _ D.TOz pO)
    refine wpAny_bind (wpAny_seqItems o2 rfl (wpAny_bind (wpAny_updateSeq_pair o2 fun k3 o3 e3 => ?_)))
    refine wpAny_bind (wpAny_letGo (wpAny_pure (wpAny_bind (wpAny_bind (wpAny_onRaise ?_)))))
    show wpAny _ _ (Builtin.SmallTypes.nextOf (.ref i2) >>= _) _ _ _
    have p23 := ((p2.extBut e1.extBut D.i2z).extBut e2.extBut D.i12.symm).extBut e3.extBut D.TOi2.symm
    have lb3 := ((lb.extBut e1.extBut D.l2z).extBut e2.extBut D.l2i1).extBut e3.extBut D.l2TO
    refine wpAny_bind (RZ.nextOf_tuple_end calm p23 lb3 ey fun k4 x e4 hx => ?_)
    exact fin k4 x (e4 _ _ D.i2z.symm (e3.extBut _ _ D.TOz.symm (e2.extBut _ _ D.i1z.symm z1))) hx fun c o n1 n2 n3 n4 g => e4 _ _ n4 (e3.extBut _ _ n2 (e2.extBut _ _ n3 (e1.extBut _ _ n1 g)))
/-- the next pair of two tuples where the zip's own tuple is still alive: a new one is made -/
theorem zip_next_item_heldT {z TI TO T i1 i2 a b : Addr} {f1 : Bool} {oT : Obj} {m n : Nat} {xs ys : Array Value} {x y : Value} {Q : Value → Shared → Prop} (D : ZipApart z TI TO i1 i2 a b) (pz : ZipX s.heap z TI TO (rawInt T) f1) (gT : s.heap.get? T = some oT)
    (pI : IsPair s.heap TI (.ref i1) (.ref i2)) (p1 : s.heap.IsTupleIter i1 a m) (p2 : s.heap.IsTupleIter i2 b n) (la : s.heap.IsTuple a xs) (lb : s.heap.IsTuple b ys) (ex : xs[m]? = some x) (ey : ys[n]? = some y)
    (q : ∀ h', ZipX h' z TI TO (rawInt T) true → h'.IsTupleIter i1 a (m + 1) → h'.IsTupleIter i2 b (n + 1) → IsPair h' s.heap.objs.size x y → h'.objs.size = s.heap.objs.size + 1 → (∀ c o, c ≠ z → c ≠ i1 → c ≠ i2 → s.heap.get? c = some o → h'.get? c = some o) → Q (.ref s.heap.objs.size) { s with heap := h' }) :
    wpAny (model P w) A (Builtin.«zip.__next__» ⟨[.ref z], []⟩) (fun fin s' => ∃ v, fin = .done (.ret v) ∧ Q v s') E s := by
  show wpAny _ _ (field (.ref z) 2 >>= _) _ _ _
  refine wpAny_bind (wpAny_field pz rfl (x := .bool false) rfl ?_)
  show wpAny _ _ (field (.ref z) 3 >>= _) _ _ _
  refine wpAny_bind (wpAny_field pz rfl (x := .ref TI) rfl (wpAny_bind (wpAny_seqItems pI rfl ?_)))
  show wpAny _ _ (Builtin.SmallTypes.ownedTupleIsFree (.ref z) >>= _) _ _ _
  refine wpAny_bind (wpAny_tupleHeld_zip pz gT fun k1 z1 e1 => ?_)
  simp only [Bool.false_eq_true, if_false]
  refine wpAny_bind ?_
  rw [← Array.forIn_toList]
  simp only [List.forIn_cons, List.forIn_nil]
  refine wpAny_bind (wpAny_bind (wpAny_holding ?_))
  show wpAny _ _ (Builtin.SmallTypes.nextOf (.ref i1) >>= _) _ _ _
  refine wpAny_bind (RZ.nextOf_tuple_item (s := { s with heap := k1 }) (p1.extBut e1.extBut D.i1z) (la.extBut e1.extBut D.l1z) ex fun k2 g2 e2 => wpAny_pure (wpAny_pure ?_))
  refine wpAny_bind (wpAny_bind (wpAny_holding ?_))
  show wpAny _ _ (Builtin.SmallTypes.nextOf (.ref i2) >>= _) _ _ _
  refine wpAny_bind (RZ.nextOf_tuple_item (s := { s with heap := k2 }) ((p2.extBut e1.extBut D.i2z).extBut e2.extBut D.i12.symm) ((lb.extBut e1.extBut D.l2z).extBut e2.extBut D.l2i1) ey fun k3 g3 e3 => wpAny_pure (wpAny_pure (wpAny_pure ?_)))
  show wpAny _ _ (newTuple [x, y] >>= _) _ _ _
  refine wpAny_bind (wpAny_newTuple (wpAny_pure ⟨_, rfl, ?_⟩))
  have sz3 : k3.objs.size = s.heap.objs.size := by rw [e3.1, e2.1, e1.1]
  have z3 : ZipX k3 z TI TO (rawInt T) true := e3.extBut _ _ D.i2z.symm (e2.extBut _ _ D.i1z.symm z1)
  have kp3 : ∀ c o, c ≠ z → c ≠ i1 → c ≠ i2 → s.heap.get? c = some o → k3.get? c = some o := fun c o n1 n2 n3 g => e3.extBut _ _ n3 (e2.extBut _ _ n2 (e1.extBut _ _ n1 g))
  have g23 : k3.IsTupleIter i1 a (m + 1) := g2.extBut e3.extBut D.i12
  show Q (.ref k3.objs.size) _
  have pr : IsPair (k3.push { cls := .type "tuple", data := .seq #[x, y] }) k3.objs.size x y := Heap.get?_push_size _ rfl
  have sz4 : (k3.push { cls := .type "tuple", data := .seq #[x, y] }).objs.size = k3.objs.size + 1 := Heap.size_push ..
  rw [sz3] at pr sz4 ⊢
  exact q _ (Heap.get?_push_of_some _ z3) (g23.at fun o g => Heap.get?_push_of_some _ g) (g3.at fun o g => Heap.get?_push_of_some _ g) pr sz4 fun c o n1 n2 n3 g => Heap.get?_push_of_some _ (kp3 c o n1 n2 n3 g)
theorem zip_next_end_heldT {z TI TO T i1 i2 a b : Addr} {f1 : Bool} {oT : Obj} {m n : Nat} {xs ys : Array Value} {Q : Fin → Shared → Prop} (calm : A.handled = none) (D : ZipApart z TI TO i1 i2 a b) (pz : ZipX s.heap z TI TO (rawInt T) f1) (gT : s.heap.get? T = some oT)
    (pI : IsPair s.heap TI (.ref i1) (.ref i2)) (p1 : s.heap.IsTupleIter i1 a m) (p2 : s.heap.IsTupleIter i2 b n) (la : s.heap.IsTuple a xs) (lb : s.heap.IsTuple b ys) (last : xs[m]? = none ∨ ys[n]? = none)
    (q : ∀ h' x, (∀ c o, c ≠ z → c ≠ i1 → c ≠ i2 → s.heap.get? c = some o → h'.get? c = some o) → (∃ o, h'.get? x = some o ∧ o.cls = .type "StopIteration") → E (.ref x) { s with heap := h' }) :
    wpAny (model P w) A (Builtin.«zip.__next__» ⟨[.ref z], []⟩) Q E s := by
  show wpAny _ _ (field (.ref z) 2 >>= _) _ _ _
  refine wpAny_bind (wpAny_field pz rfl (x := .bool false) rfl ?_)
  show wpAny _ _ (field (.ref z) 3 >>= _) _ _ _
  refine wpAny_bind (wpAny_field pz rfl (x := .ref TI) rfl (wpAny_bind (wpAny_seqItems pI rfl ?_)))
  show wpAny _ _ (Builtin.SmallTypes.ownedTupleIsFree (.ref z) >>= _) _ _ _
  refine wpAny_bind (wpAny_tupleHeld_zip pz gT fun k1 z1 e1 => ?_)
  simp only [Bool.false_eq_true, if_false]
  refine wpAny_bind ?_
  rw [← Array.forIn_toList]
  simp only [List.forIn_cons, List.forIn_nil]
  refine wpAny_bind (wpAny_bind (wpAny_holding ?_))
  show wpAny _ _ (Builtin.SmallTypes.nextOf (.ref i1) >>= _) _ _ _
  cases ex : xs[m]? with
  | none =>
    refine wpAny_bind (RZ.nextOf_tuple_end (s := { s with heap := k1 }) calm (p1.extBut e1.extBut D.i1z) (la.extBut e1.extBut D.l1z) ex fun k2 x e2 hx => ?_)
    exact q k2 x (fun c o n1 n2 _ g => e2 _ _ n2 (e1.extBut _ _ n1 g)) hx
  | some x =>
    have ey : ys[n]? = none := last.resolve_left (by rw [ex]; exact fun z => nomatch z)
    refine wpAny_bind (RZ.nextOf_tuple_item (s := { s with heap := k1 }) (p1.extBut e1.extBut D.i1z) (la.extBut e1.extBut D.l1z) ex fun k2 g2 e2 => wpAny_pure (wpAny_pure ?_))
    refine wpAny_bind (wpAny_bind (wpAny_holding ?_))
    show wpAny _ _ (Builtin.SmallTypes.nextOf (.ref i2) >>= _) _ _ _
    refine wpAny_bind (RZ.nextOf_tuple_end (s := { s with heap := k2 }) calm ((p2.extBut e1.extBut D.i2z).extBut e2.extBut D.i12.symm) ((lb.extBut e1.extBut D.l2z).extBut e2.extBut D.l2i1) ey fun k3 x e3 hx => ?_)
    exact q k3 x (fun c o n1 n2 n3 g => e3 _ _ n3 (e2.extBut _ _ n2 (e1.extBut _ _ n1 g))) hx
end
/-- a zip of two tuples at its i-th turn, whatever became of its tuple -/
def ZStT (z TI TO i1 i2 a b : Addr) (i : Nat) (h : Heap) : Prop := ∃ f0 f1, ZipX h z TI TO f0 f1 ∧ (f0 = .none ∨ ∃ T : Addr, f0 = rawInt T) ∧ IsPair h TI (.ref i1) (.ref i2) ∧ (∃ u v, IsPair h TO u v) ∧ h.IsTupleIter i1 a i ∧ h.IsTupleIter i2 b i
theorem ZStT.keep {z TI TO i1 i2 a b : Addr} {i : Nat} {h h' : Heap} (st : ZStT z TI TO i1 i2 a b i h) (k : ∀ c ∈ [z, TI, TO, i1, i2], ∀ o, h.get? c = some o → h'.get? c = some o) : ZStT z TI TO i1 i2 a b i h' := by
  obtain ⟨f0, f1, pz, ff, pI, ⟨u, v, pO⟩, p1, p2⟩ := st
  exact ⟨f0, f1, k z (by simp) _ pz, ff, k TI (by simp) _ pI, ⟨u, v, k TO (by simp) _ pO⟩, p1.at fun o e => k i1 (by simp) o e, p2.at fun o e => k i2 (by simp) o e⟩
theorem ZStT.lt {z TI TO i1 i2 a b : Addr} {i : Nat} {h : Heap} (st : ZStT z TI TO i1 i2 a b i h) : ∀ c ∈ [z, TI, TO, i1, i2], ∃ o, h.get? c = some o ∧ ∀ v, o.data ≠ .cell v := by
  obtain ⟨f0, f1, pz, ff, pI, ⟨u, v, pO⟩, ⟨o1, h1, _, d1⟩, ⟨o2, h2, _, d2⟩⟩ := st
  intro c hc
  have hc : c = z ∨ c = TI ∨ c = TO ∨ c = i1 ∨ c = i2 := by simpa using hc
  rcases hc with e | e | e | e | e
  · rw [e]; exact ⟨_, pz, fun v q => nomatch q⟩
  · rw [e]; exact ⟨_, pI, fun v q => nomatch q⟩
  · rw [e]; exact ⟨_, pO, fun v q => nomatch q⟩
  · rw [e]; exact ⟨o1, h1, fun v q => by rw [d1] at q; cases q⟩
  · rw [e]; exact ⟨o2, h2, fun v q => by rw [d2] at q; cases q⟩
section
variable {P : Program} {w : World} {A : Around} {E : Value → Shared → Prop} {s : Shared}
theorem zst_itemT {z TI TO i1 i2 a b : Addr} {i : Nat} {xs ys : Array Value} {x y : Value} {Q : Value → Shared → Prop} (D : ZipApart z TI TO i1 i2 a b) (st : ZStT z TI TO i1 i2 a b i s.heap) (la : s.heap.IsTuple a xs) (lb : s.heap.IsTuple b ys) (ex : xs[i]? = some x) (ey : ys[i]? = some y)
    (q : ∀ h', ZStT z TI TO i1 i2 a b (i + 1) h' → IsPair h' s.heap.objs.size x y → h'.objs.size = s.heap.objs.size + 1 → (∀ c o, c ∉ [z, TI, TO, i1, i2] → s.heap.get? c = some o → h'.get? c = some o) → Q (.ref s.heap.objs.size) { s with heap := h' }) :
    wpAny (model P w) A (Builtin.SmallTypes.nextOf (.ref z)) Q E s := by
  obtain ⟨f0, f1, pz, ff, pI, ⟨u, v, pO⟩, p1, p2⟩ := st
  have ty : s.TypeIs (.ref z) "zip" := ⟨_, pz, rfl⟩
  unfold Builtin.SmallTypes.nextOf
  refine wpAny_bind (wpAny_callSpecial?_slot (name := Str.ofString "__next__") ty F.slot_zip_next (wpAny_call_entry F.slot_zip_next ty F.entry_zip_next ?_ (F.args_zip_next_1 _)))
  have free : FreeT s.heap f0 → wpAny (model P w) A.in1 (Builtin.«zip.__next__» ⟨[.ref z], []⟩) (fun fin s' => ∃ v, fin = .done (.ret v) ∧ wpAny (model P w) A (pure v) Q E s') E s := fun fr =>
    zfree_itemT D pz fr pI pO p1 p2 la lb ex ey fun h' a1 a2 a3 a4 a5 a6 kp => wpAny_pure (q h' ⟨_, _, a1, .inr ⟨_, rfl⟩, kp _ _ D.TIz D.TITO D.TIi1 D.TIi2 pI, ⟨x, y, a2⟩, a3, a4⟩ a5 a6 fun c o nc e => kp c o (fun z => nc (by simp [z])) (fun z => nc (by simp [z])) (fun z => nc (by simp [z])) (fun z => nc (by simp [z])) e)
  rcases ff with rfl | ⟨T, rfl⟩
  · exact free (.inl rfl)
  · cases eT : s.heap.get? T with
    | none => exact free (.inr ⟨T, rfl, eT⟩)
    | some oT =>
      refine zip_next_item_heldT D pz eT pI p1 p2 la lb ex ey fun h' a1 a3 a4 a5 a6 kp => ?_
      exact wpAny_pure (q h' ⟨_, _, a1, .inr ⟨_, rfl⟩, kp _ _ D.TIz D.TIi1 D.TIi2 pI, ⟨u, v, kp _ _ D.TOz D.TOi1 D.TOi2 pO⟩, a3, a4⟩ a5 a6 fun c o nc e => kp c o (fun z => nc (by simp [z])) (fun z => nc (by simp [z])) (fun z => nc (by simp [z])) e)
theorem zst_endT {z TI TO i1 i2 a b : Addr} {i : Nat} {xs ys : Array Value} {Q : Value → Shared → Prop} (calm : A.handled = none) (D : ZipApart z TI TO i1 i2 a b) (st : ZStT z TI TO i1 i2 a b i s.heap) (la : s.heap.IsTuple a xs) (lb : s.heap.IsTuple b ys) (last : xs[i]? = none ∨ ys[i]? = none)
    (q : ∀ h' x, (∀ c o, c ∉ [z, TI, TO, i1, i2] → s.heap.get? c = some o → h'.get? c = some o) → (∃ o, h'.get? x = some o ∧ o.cls = .type "StopIteration") → E (.ref x) { s with heap := h' }) :
    wpAny (model P w) A (Builtin.SmallTypes.nextOf (.ref z)) Q E s := by
  obtain ⟨f0, f1, pz, ff, pI, ⟨u, v, pO⟩, p1, p2⟩ := st
  have ty : s.TypeIs (.ref z) "zip" := ⟨_, pz, rfl⟩
  have calm1 : A.in1.handled = none := by simp [calm]
  unfold Builtin.SmallTypes.nextOf
  refine wpAny_bind (wpAny_callSpecial?_slot (name := Str.ofString "__next__") ty F.slot_zip_next (wpAny_call_entry F.slot_zip_next ty F.entry_zip_next ?_ (F.args_zip_next_1 _)))
  rcases ff with rfl | ⟨T, rfl⟩
  · exact zfree_endT calm1 D pz (.inl rfl) pI pO p1 p2 la lb last fun h' x kp hx => q h' x (fun c o nc e => kp c o (fun z => nc (by simp [z])) (fun z => nc (by simp [z])) (fun z => nc (by simp [z])) (fun z => nc (by simp [z])) e) hx
  · cases eT : s.heap.get? T with
    | none => exact zfree_endT calm1 D pz (.inr ⟨T, rfl, eT⟩) pI pO p1 p2 la lb last fun h' x kp hx => q h' x (fun c o nc e => kp c o (fun z => nc (by simp [z])) (fun z => nc (by simp [z])) (fun z => nc (by simp [z])) (fun z => nc (by simp [z])) e) hx
    | some oT => exact zip_next_end_heldT calm1 D pz eT pI p1 p2 la lb last fun h' x kp hx => q h' x (fun c o nc e => kp c o (fun z => nc (by simp [z])) (fun z => nc (by simp [z])) (fun z => nc (by simp [z])) e) hx
end
/-- the i-th turn: a new pair of i and a new pair of the two items -/
def ItezT (K : PySem.W.Frag) (a b : Addr) : It :=
  ⟨fun i H => ∃ (xs ys : List V) (x y : V), SqT K H a xs ∧ SqT K H b ys ∧ xs[i]? = some x ∧ ys[i]? = some y,
    fun i H v H' => ∃ T U x y, v = .ref T ∧ H U = none ∧ (upd H U (.tup [x, y])) T = none ∧ H' = upd (upd H U (.tup [x, y])) T (.tup [.int (i : Nat), .ref U]) ∧ (∀ xs, SqT K H a xs → xs[i]? = some x) ∧ ∀ ys, SqT K H b ys → ys[i]? = some y,
    fun i H => ∃ xs ys : List V, SqT K H a xs ∧ SqT K H b ys ∧ (xs.length ≤ i ∨ ys.length ≤ i)⟩
theorem turn_ezT {P : Program} {w : World} {K : PySem.W.Frag} {elts : List Expr} {kk : Nat} {tpos : Pos} {a b e z TI TO i1 i2 : Addr} (D : ZipApart z TI TO i1 i2 a b) (ne : e ∉ [z, TI, TO, i1, i2]) :
    Turn P w K (.Tuple elts kk tpos) (ItezT K a b) (e :: [z, TI, TO, i1, i2]) e (fun i h => (∃ old, IsEnum h e z ((i : Nat) : Int) old) ∧ ZStT z TI TO i1 i2 a b i h) where
  mem := List.mem_cons_self
  obj := fun i h st c hc => by
    obtain ⟨⟨old, pe⟩, zs⟩ := st
    rcases List.mem_cons.mp hc with q | q
    · rw [q]; exact ⟨_, pe, fun v q => nomatch q⟩
    · exact zs.lt c q
  keep := fun i h h' st k => by
    obtain ⟨⟨old, pe⟩, zs⟩ := st
    exact ⟨⟨old, k e List.mem_cons_self _ pe⟩, zs.keep fun c hc => k c (List.mem_cons_of_mem _ hc)⟩
  item := by
    intro X hP hw hK hc i pins s σ H E I hf st hg
    subst hP hw hK
    obtain ⟨⟨old, pe⟩, zs⟩ := st
    obtain ⟨xs, ys, x, y, hqx, hqy, hx, hy⟩ := hg
    obtain ⟨its, rv, p, _⟩ := I.tuple hqx
    obtain ⟨its2, rv2, p2, _⟩ := I.tuple hqy
    obtain ⟨u, hu, ru⟩ := rv.get hx
    obtain ⟨u2, hu2, ru2⟩ := rv2.get hy
    have elt : e < s.heap.objs.size := Heap.lt_size pe
    have zlt : ∀ c ∈ [z, TI, TO, i1, i2], c < s.heap.objs.size := fun c hc => by
      obtain ⟨o, ho, _⟩ := zs.lt c hc
      exact Heap.lt_size ho
    refine enum_over (R := fun v h1 => v = .ref s.heap.objs.size ∧ ZStT z TI TO i1 i2 a b (i + 1) h1 ∧ IsPair h1 s.heap.objs.size u u2 ∧ h1.objs.size = s.heap.objs.size + 1 ∧ ∀ c o, c ∉ [z, TI, TO, i1, i2] → s.heap.get? c = some o → h1.get? c = some o) pe
      (fun Q' E' hq => zst_itemT D zs p p2 (by simpa using hu) (by simpa using hu2) fun h1 a1 a2 a3 a4 => hq _ h1 ⟨rfl, a1, a2, a3, a4⟩) (fun v h1 r => r.2.2.2.2 e _ ne pe) fun v h1 h' tk r pe' tp k2 => ?_
    obtain ⟨ev, z1, pr, sz, k1⟩ := r
    subst ev
    refine ⟨_, rfl, wpAny_letOwnedTupleGo_enum (s := { s with heap := h', toks := tk + 1 }) pe' fun h'' pe'' sb => ?_⟩
    have sb : Heap.SameBut e h' h'' := sb
    have k3 : ∀ c o, c ≠ e → h1.get? c = some o → h''.get? c = some o := fun c o n q => (sb.2 c n).trans (k2 c o n q)
    have ult : s.heap.objs.size < h1.objs.size := by rw [sz]; exact Nat.lt_succ_self _
    have elt1 : e < h1.objs.size := Nat.lt_trans elt ult
    have new1 : ObjOk X.prog X.w (upd H s.heap.objs.size (.tup [x, y])) h1 s.heap.objs.size (.tup [x, y]) := ⟨by show 2 ≤ sizeLine; decide, [u, u2], .cons ru (.cons ru2 .nil), ⟨_, pr, rfl, _, rfl⟩⟩
    have I1 : Inv X pins σ (upd H s.heap.objs.size (.tup [x, y])) { s with heap := h1, toks := s.toks } :=
      I.turnedNew (t' := s.toks) (ch := [z, TI, TO, i1, i2]) k1 (fun c hc => hf c (List.mem_cons_of_mem _ hc)) (Nat.le_refl _) new1
    have t2 : h''.get? h1.objs.size = some { cls := .type "tuple", data := .seq #[.int i tk, .ref s.heap.objs.size] } := (sb.2 _ (Nat.ne_of_gt elt1)).trans tp
    have new2 : ObjOk X.prog X.w (upd (upd H s.heap.objs.size (.tup [x, y])) h1.objs.size (.tup [.int (i : Nat), .ref s.heap.objs.size])) h'' h1.objs.size (.tup [.int (i : Nat), .ref s.heap.objs.size]) :=
      ⟨by show 2 ≤ sizeLine; decide, [.int i tk, .ref s.heap.objs.size], .cons ⟨_, rfl⟩ (.cons rfl .nil), ⟨_, t2, rfl, _, rfl⟩⟩
    have I2 : Inv X pins σ (upd (upd H s.heap.objs.size (.tup [x, y])) h1.objs.size (.tup [.int (i : Nat), .ref s.heap.objs.size])) { s with heap := h'', toks := tk + 1 } :=
      I1.turnedNew (t' := tk + 1) (ch := [e]) (fun c o nc q => k3 c o (fun z => nc (by rw [z]; exact List.mem_cons_self)) q) (fun c hc => by
        rw [List.mem_singleton.mp hc]
        obtain ⟨f0, f1⟩ := hf e List.mem_cons_self
        exact ⟨by rw [upd_ne (Nat.ne_of_lt elt)]; exact f0, f1⟩) (Nat.le_refl _) new2
    refine ⟨.ref h1.objs.size, _, I2, rfl, ⟨_, _, x, y, rfl, I.hok.fresh (Nat.le_refl _), I1.hok.fresh (Nat.le_refl _), rfl, fun l hl => by rw [I.tuple_inj hl hqx]; exact hx, fun l hl => by rw [I.tuple_inj hl hqy]; exact hy⟩, ⟨⟨_, pe''⟩, z1.keep fun c hc o q => k3 c o (fun z => ne (z ▸ hc)) q⟩, fun c hc => ?_⟩
    have clt : c < s.heap.objs.size := by
      rcases List.mem_cons.mp hc with q | q
      · rw [q]; exact elt
      · exact zlt c q
    rw [upd_ne (Nat.ne_of_lt (Nat.lt_trans clt ult)), upd_ne (Nat.ne_of_lt clt)]
    exact (hf c hc).1
  done := by
    intro X hP hw hK hc i pins s σ H E I hf st hg
    subst hP hw hK
    obtain ⟨⟨old, pe⟩, zs⟩ := st
    obtain ⟨xs, ys, hqx, hqy, hend⟩ := hg
    obtain ⟨its, rv, p, _⟩ := I.tuple hqx
    obtain ⟨its2, rv2, p2, _⟩ := I.tuple hqy
    have l1 := rv.length
    have l2 := rv2.length
    have last : its.toArray[i]? = none ∨ its2.toArray[i]? = none := hend.imp (fun q => by simp; omega) (fun q => by simp; omega)
    exact enum_over_end (R := fun h1 => ∀ c o, c ∉ [z, TI, TO, i1, i2] → s.heap.get? c = some o → h1.get? c = some o) pe
      (fun Q' E' hq => zst_endT (by simp [I.ok.hd hc]) D zs p p2 last fun h' x kp hx => hq h' x kp hx)
      fun h1 kp => ⟨rfl, I.turnedL (t' := s.toks) (ch := [z, TI, TO, i1, i2]) kp fun c hc => hf c (List.mem_cons_of_mem _ hc)⟩
  self := fun A i s Q E st h => let ⟨⟨_, pe⟩, _⟩ := st; wpAny_pyIter_enum pe h
def iEZT (K : PySem.W.Frag) (ta : TA) : TI := fun σ H R => ta σ H fun vs H1 => ∃ a b xs ys, vs = [.ref a, .ref b] ∧ SqT K H1 a xs ∧ SqT K H1 b ys ∧ R (ItezT K a b) H1
theorem pi_ezT {X : Cx} {e e2 : Expr} {ta : TA} {p pos p0 pos0 tpos : Pos} {elts : List Expr} {kk : Nat} (hg0 : Gl X "enumerate") (hm0 : X.mg "enumerate" = none) (hg : Gl X "zip") (hm : X.mg "zip" = none) (ha : PA X [e, e2] ta)
    (hs0 : starEach [.Call (.Name "zip" p) [e, e2] [] pos] X.env = [(false, eval (.Call (.Name "zip" p) [e, e2] [] pos) X.env)] := by rfl)
    (hs : starEach [e, e2] X.env = (false, eval e X.env) :: starEach [e2] X.env := by rfl) (hpl : (backTo pos (starEach [e2] X.env)).any (·.1) = false := by rfl) :
    PI X (.Tuple elts kk tpos) (.Call (.Name "enumerate" p0) [.Call (.Name "zip" p) [e, e2] [] pos] [] pos0) (iEZT X.K ta) := by
  refine ⟨fun pins s σ H R I h => ?_⟩
  refine Call_ (ld_blt I hg0 hm0 boot_enumerate (PyProof.Rows.callWith_type1 ?_ hs0 rfl))
  rw [hs0]
  show wpAny _ _ (spliced ((false, eval (.Call (.Name "zip" p) [e, e2] [] pos) X.env) :: backTo pos0 [])) _ _ s
  refine Calls.spliced_cons ?_
  refine Call_ (ld_blt I hg hm PyProof.Rows.boot_zip (PyProof.Rows.callWith_type1 (thn (ha.run pos pins s σ H _ I h) fun us s1 ⟨vs, H1, I1, r1, q1⟩ => ?_) hs hpl))
  obtain ⟨a, b, xs, ys, ex, hqx, hqy, q⟩ := q1
  subst ex
  cases r1 with
  | cons r rr =>
    cases rr with
    | cons r' rr =>
      cases rr
      cases r
      cases r'
      obtain ⟨its, rv, p1, _⟩ := I1.tuple hqx
      obtain ⟨its2, rv2, p2, _⟩ := I1.tuple hqy
      have la : a < s1.heap.objs.size := p1.lt
      have lb : b < s1.heap.objs.size := p2.lt
      refine RZ.call_zipT p1 p2 fun h' pz pI pO g1 g2 size keep => Calls.spliced_nil ?_
      refine enum_callZ (s := { s1 with heap := h' }) pz fun h'' pe keep2 => wpAny_pyIter_enum pe ?_
      have I2 : Inv X pins σ H1 { s1 with heap := h'' } := I1.kept (t' := s1.toks) fun b o x => keep2 b o (keep b o x)
      have hsz : h'.objs.size = s1.heap.objs.size + 5 := size
      have D := PySem.W.ktu_apart s1.heap.objs.size a b la lb
      refine ⟨h'.objs.size, h'.objs.size :: [s1.heap.objs.size + 4, s1.heap.objs.size + 2, s1.heap.objs.size + 3, s1.heap.objs.size, s1.heap.objs.size + 1], _, _, H1, rfl, I2, turn_ezT D ?_, ⟨⟨.none, pe⟩, ?_⟩, fun c hc => ?_, q⟩
      · rw [hsz]
        intro hc
        have hc : (s1.heap.objs.size + 5 : Nat) = s1.heap.objs.size + 4 ∨ (s1.heap.objs.size + 5 : Nat) = s1.heap.objs.size + 2 ∨ (s1.heap.objs.size + 5 : Nat) = s1.heap.objs.size + 3 ∨ (s1.heap.objs.size + 5 : Nat) = s1.heap.objs.size ∨ (s1.heap.objs.size + 5 : Nat) = s1.heap.objs.size + 1 := by simpa using hc
        omega
      · exact (show ZStT _ _ _ _ _ a b 0 h' from ⟨.none, false, pz, .inl rfl, pI, ⟨_, _, pO⟩, g1, g2⟩).keep fun c _ o x => keep2 c o x
      · have le : s1.heap.objs.size ≤ c := by
          rcases List.mem_cons.mp hc with e | e
          · rw [e, hsz]; exact Nat.le_add_right _ _
          · have e : c = s1.heap.objs.size + 4 ∨ c = s1.heap.objs.size + 2 ∨ c = s1.heap.objs.size + 3 ∨ c = s1.heap.objs.size ∨ c = s1.heap.objs.size + 1 := by simpa using e
            rcases e with z | z | z | z | z <;> rw [z] <;> first | exact Nat.le_add_right _ _ | exact Nat.le_refl _
        exact I1.fpOk le (I1.hok.fresh le)
section
variable {K : PySem.W.Frag} {a b : Addr} {xs ys : List V}
def YEZT (xs ys : List V) (i : Nat) (H : Hp) (v : V) (H' : Hp) : Prop := ∃ T U x y, v = .ref T ∧ H U = none ∧ (upd H U (.tup [x, y])) T = none ∧ H' = upd (upd H U (.tup [x, y])) T (.tup [.int (i : Nat), .ref U]) ∧ xs[i]? = some x ∧ ys[i]? = some y
theorem walk_ezT {n : Nat} (hn : n = min xs.length ys.length) : Walk (ItezT K a b) n (fun H => SqT K H a xs ∧ SqT K H b ys) (YEZT xs ys) := by
  subst hn
  refine ⟨fun i _ hi q => ?_, fun _ q => ⟨xs, ys, q.1, q.2, by omega⟩, fun i H v H' _ q y => ?_⟩
  · have g1 : i < xs.length := by omega
    have g2 : i < ys.length := by omega
    exact ⟨xs, ys, xs[i], ys[i], q.1, q.2, by simp [g1], by simp [g2]⟩
  · obtain ⟨T, U, x, z, g1, g2, g3, g4, g5, g6⟩ := y
    exact ⟨T, U, x, z, g1, g2, g3, g4, g5 xs q.1, g6 ys q.2⟩
end
/-! ### a comprehension whose element is told what the def knows at its start -/
section
variable {X : Cx}
theorem lc_told {pins : List (Addr × Obj)} {s : Shared} {σ : L2.St} {H : Hp} {Q : VK} {elt tg iter : Expr} {ifs : List Expr} {scope : Scope} {own : List (Str × Nat)} {pos pos' : Pos} {wi : TI} {g : TG} {tt : TT} {te : TE} {use : Option (Value → Sem Unit)} {Qf : Value → Shared → Prop}
    (calm : X.calm = true) (nd : X.N.Nodup) (I : Inv X pins σ H s) (hi : PI X tg iter wi) (ok : BlkOk X.N X.env.scope scope own)
    (hg : ∀ (s : Shared) (H : Hp) (C : Addr) (cl : List (Str × Addr)) (fp : List Addr), PG (X.blk s H scope (compEnvC scope cl C X.env) fp) tg g) (ht : ∀ (s : Shared) (H : Hp) (C : Addr) (cl : List (Str × Addr)) (fp : List Addr), PTs (X.blk s H scope (compEnvC scope cl C X.env) fp) ifs tt)
    (he : ∀ (s : Shared) (H : Hp) (C : Addr) (cl : List (Str × Addr)) (fp : List Addr), Inv X pins σ H s → (∀ b ∈ fp, FpOk X pins H b) → PE (X.blk s H scope (compEnvC scope cl C X.env) fp) elt te) (hs : ∀ x, foldedSetIterable iter X.env x = pure x)
    (h : tLc wi g tt te (own.map (·.2)) σ H Q)
    (out : ∀ D C s' m H', Inv X pins σ H' s' → Q (.ref D) H' → s'.heap.Ns C m → FpOk X pins H' C → compPost (model X.prog X.w) X.A X.xe use Qf (.ref D) C (.ok .next) s') :
    wpAny (model X.prog X.w) X.A (comprehension (.ListComp elt [⟨tg, iter, ifs, 0⟩] scope pos) scope X.env pos' (newList []) false (eval iter X.env) use) Qf X.xe s := by
  have cap : ∀ y ∈ scope.names, y.2 = .free → ∃ c, X.env.cells.lookup y.1 = some c := fun y hy e => (ok.free y hy e).elim (fun k => I.ok.has _ (.inl k)) fun k => I.ok.has _ (.inr k)
  refine wpAny_comprehension_free (use := use) rfl hs (closure_ok cap) ok.kind (fun y hy e => by rw [ok.uniq y hy, e]) (thn (hi.run pins s σ H _ I h) fun xv sa ha => thn ha fun itv sb hb => ?_)
  obtain ⟨it, fp, tn, J, Hb, rfl, Ib, T, stb, fb, q⟩ := hb
  refine wpAny_newObj_type (newEnv_comp ?_) (by show 0 ≤ sizeLine; decide)
  have fresh : Hb sb.heap.objs.size = none := Ib.hok.fresh (Nat.le_refl _)
  obtain ⟨W, ⟨m0, w0⟩, turn⟩ := q sb.heap.objs.size fresh
  -- the list is laid
  have Ic : Inv X pins σ (upd Hb sb.heap.objs.size (.lst [])) { sb with heap := sb.heap.push { cls := .type "list", data := .seq ([] : List Value).toArray } } :=
    Ib.laid (t' := sb.toks) (fun b o e => Heap.get?_push_of_some _ e) (Nat.le_refl _) ⟨Nat.zero_le _, [], 0, .nil, Heap.get?_push_size _ rfl⟩
  have stc : tn 0 (sb.heap.push { cls := .type "list", data := .seq ([] : List Value).toArray }) := T.keep _ _ _ stb fun b _ o e => Heap.get?_push_of_some _ e
  have fc : ∀ b ∈ fp, FpOk X pins (upd Hb sb.heap.objs.size (.lst [])) b ∧ b < (sb.heap.push { cls := .type "list", data := .seq ([] : List Value).toArray }).objs.size := fun b hbm => by
    obtain ⟨o, e, _⟩ := T.obj _ _ stb b hbm
    have lt := Heap.lt_size e
    exact ⟨⟨by rw [upd_ne (Nat.ne_of_lt lt)]; exact (fb b hbm).1, (fb b hbm).2⟩, by rw [Heap.size_push]; exact Nat.lt_succ_of_lt lt⟩
  generalize sb.heap.objs.size = D at fresh w0 turn Ic fc ⊢
  generalize upd Hb D (.lst []) = Hc at w0 Ic fc
  generalize hsc : ({ sb with heap := sb.heap.push { cls := .type "list", data := .seq ([] : List Value).toArray } } : Shared) = sc at Ic
  have esc : sc.heap = sb.heap.push { cls := .type "list", data := .seq ([] : List Value).toArray } := by rw [← hsc]
  rw [← esc] at stc fc
  have Id := block_start Ic ok nd fc
  have PGx := hg sc Hc sc.heap.objs.size (cellsFrom (sc.heap.objs.size + 1) scope.names (cloFrom X.env.cells scope.names [])) fp
  have PTx := ht sc Hc sc.heap.objs.size (cellsFrom (sc.heap.objs.size + 1) scope.names (cloFrom X.env.cells scope.names [])) fp
  have PEx := he sc Hc sc.heap.objs.size (cellsFrom (sc.heap.objs.size + 1) scope.names (cloFrom X.env.cells scope.names [])) fp Ic fun b hbm => (fc b hbm).1
  show codeAny _ _ (.compStart (.ListComp elt [⟨tg, iter, ifs, 0⟩] scope pos) 0 (.ref it) (.ref D) (compEnvC scope (cellsFrom (sc.heap.objs.size + 1) scope.names (cloFrom X.env.cells scope.names [])) sc.heap.objs.size X.env)) (compPost (model X.prog X.w) X.A X.xe use Qf (.ref D) sc.heap.objs.size) { sc with heap := pushCells (sc.heap.push { cls := .type "dict", data := .dict #[] }) scope.names }
  generalize hen : compEnvC scope (cellsFrom (sc.heap.objs.size + 1) scope.names (cloFrom X.env.cells scope.names [])) sc.heap.objs.size X.env = en at Id PGx PTx PEx ⊢
  have eL : en.locals = sc.heap.objs.size := by subst hen; rfl
  generalize hsd : ({ sc with heap := pushCells (sc.heap.push { cls := .type "dict", data := .dict #[] }) scope.names } : Shared) = sd at Id ⊢
  have std : tn 0 sd.heap := T.keep _ _ _ stc fun b _ o e => by rw [← hsd]; exact pushCells_keeps _ _ _ _ (Heap.get?_push_of_some _ e)
  have foot : ∀ {σ' : L2.St} {H' : Hp} {s' : Shared}, Inv (X.blk sc Hc scope en fp) [] σ' H' s' → (∀ b ∈ fp, H' b = none) → ∀ b ∈ fp, FpOk (X.blk sc Hc scope en fp) [] H' b := fun {σ' H' s'} J hn b hbm =>
    ⟨hn b hbm, (J.ok.exf b hbm).1, J.ok.exfs b hbm, .inl hbm, fun x c e => (J.ok.exf b hbm).2 x c e, fun p hp => absurd (show p ∈ ([] : List (Addr × Obj)) ++ [] from hp) (by simp)⟩
  have loop : codeAny (model X.prog X.w) X.A (.compLoop (.ListComp elt [⟨tg, iter, ifs, 0⟩] scope pos) 0 (.ref it) (.ref D) en) (compPost (model X.prog X.w) X.A X.xe use Qf (.ref D) sc.heap.objs.size) sd := by
    refine compLoop_any (fun n s' => ∃ i H', Inv (X.blk sc Hc scope en fp) [] (wipe σ (own.map (·.2))) H' s' ∧ tn i s'.heap ∧ (∀ b ∈ fp, H' b = none) ∧ W i n H') ?_ m0 ⟨0, Hc, Id, std, (fun b hbm => (fc b hbm).1.1), w0⟩
    rintro n se ⟨i, He, Ie, ste, ne, we⟩
    rcases turn i n He we with ⟨stop, done⟩ | ⟨go, Nx, later, step⟩
    · refine thnF (T.done (X.blk sc Hc scope en fp) rfl rfl rfl calm i [] se _ He (fun _ _ => False) Ie (foot Ie ne) ste stop) fun r sf hf => ?_
      obtain ⟨rfl, If⟩ := hf
      have back : Inv X pins σ He sf := Ic.call' (ch := fp) If.os If.base If.hok If.bare fun b hbm => ⟨(fc b hbm).1.2.2.2.1, (fc b hbm).1.2.1, (fc b hbm).1.2.2.2.2.1, (fc b hbm).1.2.2.2.2.2⟩
      have fz : He en.locals = none := If.free
      obtain ⟨m, ns, _⟩ := If.loc
      have ns : sf.heap.Ns en.locals m := ns
      rw [eL] at fz ns
      exact out D sc.heap.objs.size sf m He back done ns (Ic.fpOk (Nat.le_refl _) fz)
    · refine thnF (T.item (X.blk sc Hc scope en fp) rfl rfl rfl calm i [] se _ He (fun _ _ => False) Ie (foot Ie ne) ste go) fun r sf hf => ?_
      obtain ⟨u, rfl, hf⟩ := hf
      refine thnF hf fun _ sg hgg => ?_
      obtain ⟨x, Hg, Ig, rx, yx, stg, ng⟩ := hgg
      refine thnF (PGx.run _ sg _ Hg x u _ (Ig.pinned (foot Ig ng) (T.obj _ _ stg)) rx (step x Hg yx)) fun _ sh hh => ?_
      obtain ⟨σh, Hh, Ih, wh, qh⟩ := hh
      refine thnF (PTx.run _ sh σh Hh _ Ih qh) fun b si hsi => ?_
      obtain ⟨Hi, Ii, qi⟩ := hsi
      have next : ∀ {s' : Shared} {H' : Hp}, Inv (X.blk sc Hc scope en fp) ([] ++ pinsAt fp sg.heap) σh H' s' → Nx H' → ∃ m, m < n ∧ ∃ i H', Inv (X.blk sc Hc scope en fp) [] (wipe σ (own.map (·.2))) H' s' ∧ tn i s'.heap ∧ (∀ b ∈ fp, H' b = none) ∧ W i m H' := fun {s' H'} J nx => by
        obtain ⟨m', lt, w'⟩ := later H' nx
        have held : ∀ b ∈ fp, ∀ o, sg.heap.get? b = some o → s'.heap.get? b = some o ∧ H' b = none := fun b hbm o e => by
          have z := J.pin (b, o) (List.mem_append_right _ (List.mem_append_right _ (mem_pinsAt hbm e)))
          exact ⟨z.1, z.2.1⟩
        refine ⟨m', lt, i + 1, H', (J.unpinned (pins := [])).weak (by rw [← wh, wipe_length]) (fun j v e => ?_), T.keep _ _ _ stg fun b hbm o e => (held b hbm o e).1, fun b hbm => ?_, w'⟩
        · rw [← wh] at e
          exact (wipe_some e).1
        · obtain ⟨o, e, _⟩ := T.obj _ _ stg b hbm
          exact (held b hbm o e).2
      cases b with
      | false =>
        simp only [Bool.false_eq_true, if_false] at qi ⊢
        exact next Ii qi
      | true =>
        simp only [if_true] at qi ⊢
        refine thnF (PEx.run _ si σh Hi _ Ii qi) fun z sj hj => ?_
        obtain ⟨yv, Hj, Ij, rj, acc, hDj, hzj, nx⟩ := hj
        exact app_ok (X := X.blk sc Hc scope en fp) Ij hDj hzj rj fun sk Ik => next Ik nx
  exact codeAny_compStart_list loop (T.self X.A 0 _ _ _ std loop)
/-- [elt for tg in iter if ..] as a value; js: where the captured names of lambdas stand -/
theorem pe_lcI {elt tg iter : Expr} {ifs : List Expr} {scope : Scope} {own : List (Str × Nat)} {pos : Pos} {wi : TI} {g : TG} {tt : TT} {te : L2.St → TE} (calm : X.calm = true) (nd : X.N.Nodup) (hi : PI X tg iter wi) (ok : BlkOk X.N X.env.scope scope own)
    (hg : ∀ (s : Shared) (H : Hp) (C : Addr) (cl : List (Str × Addr)) (fp : List Addr), PG (X.blk s H scope (compEnvC scope cl C X.env) fp) tg g) (ht : ∀ (s : Shared) (H : Hp) (C : Addr) (cl : List (Str × Addr)) (fp : List Addr), PTs (X.blk s H scope (compEnvC scope cl C X.env) fp) ifs tt)
    (he : ∀ (pins : List (Addr × Obj)) (σ : L2.St) (s : Shared) (H : Hp) (C : Addr) (cl : List (Str × Addr)) (fp : List Addr), Inv X pins σ H s → (∀ b ∈ fp, FpOk X pins H b) → PE (X.blk s H scope (compEnvC scope cl C X.env) fp) elt (te σ)) (hs : ∀ x, foldedSetIterable iter X.env x = pure x := by intro _; rfl) :
    PE X (.ListComp elt [⟨tg, iter, ifs, 0⟩] scope pos) (fun σ H Q => tLc wi g tt (te σ) (own.map (·.2)) σ H Q) := by
  refine ⟨fun pins s σ H Q I h => ?_⟩
  rw [eval_ListComp]
  refine lc_told calm nd I hi ok hg ht (he pins σ) hs h fun D C s' m H' I' q hn f => ⟨m, hn, fun h'' sb => ?_⟩
  obtain ⟨f0, f1, f2, f3, f4, f5⟩ := f
  exact ⟨.ref D, H', I'.turned (t' := s'.toks) (fun b o hb e => (sb.2 b hb).trans e) f0 f1 f3 f4 f5, rfl, q⟩
end
section
variable {X : Cx}
/-- name = [..] on one line, the name a local -/
theorem ps_setLcI {i : Nat} {y : Str} {py : Pos} {elt tg iter : Expr} {ifs : List Expr} {scope : Scope} {own : List (Str × Nat)} {pos spos : Pos} {wi : TI} {g : TG} {tt : TT} {te : L2.St → TE} (calm : X.calm = true) (nd : X.N.Nodup) (hy : X.N[i]? = some y) (hyl : X.env.scope.names.lookup y = some .local)
    (sw : swapsWith (.ListComp elt [⟨tg, iter, ifs, 0⟩] scope pos) (some (.Name y py)) spos.line X.env = pure true) (hi : PI X tg iter wi) (ok : BlkOk X.N X.env.scope scope own)
    (hg : ∀ (s : Shared) (H : Hp) (C : Addr) (cl : List (Str × Addr)) (fp : List Addr), PG (X.blk s H scope (compEnvC scope cl C X.env) fp) tg g) (ht : ∀ (s : Shared) (H : Hp) (C : Addr) (cl : List (Str × Addr)) (fp : List Addr), PTs (X.blk s H scope (compEnvC scope cl C X.env) fp) ifs tt)
    (he : ∀ (pins : List (Addr × Obj)) (σ : L2.St) (s : Shared) (H : Hp) (C : Addr) (cl : List (Str × Addr)) (fp : List Addr), Inv X pins σ H s → (∀ b ∈ fp, FpOk X pins H b) → PE (X.blk s H scope (compEnvC scope cl C X.env) fp) elt (te σ)) (hs : ∀ x, foldedSetIterable iter X.env x = pure x := by intro _; rfl) :
    PS X (.Assign [.Name y py] (.ListComp elt [⟨tg, iter, ifs, 0⟩] scope pos) spos) (tAsg (fun σ H Q => tLc wi g tt (te σ) (own.map (·.2)) σ H Q) (gName i)) := by
  refine ⟨fun pins s σ H D I h => ?_⟩
  rw [exec_Assign_Name_used _ _ _ _ sw]
  refine wpAny_bind (wpAny_standAt (wpAny_bind ?_))
  show wpAny _ X.A (do let _ ← comprehension (.ListComp elt [⟨tg, iter, ifs, 0⟩] scope pos) scope X.env (firstIterPos [⟨tg, iter, ifs, 0⟩] pos) (newList []) false (eval iter X.env) (some (assign (.Name y py) X.env))) _ _ s
  have h : tLc wi g tt (te σ) (own.map (·.2)) σ H (fun x H1 => gName i x σ H1 D.nx) := h
  refine wpAny_bind (thn (lc_told (Qf := fun _ s' => SP X pins D .next s') calm nd I hi ok hg ht (he pins σ) hs h fun l c s' m H' I' q ns f => ?_) fun _ s' hq => wpAny_pure (wpAny_pure hq))
  show wpAny _ _ (assign (.Name y py) X.env (.ref l)) _ _ _
  obtain ⟨f0, f1, f2, f3, f4, f5⟩ := f
  refine wpAny_assign_Name (store_ok2 (v := V.ref l) I' nd hy (.inl hyl) rfl (fun s2 I2 z => ?_) (.inr hyl))
  obtain ⟨a, sb, ha⟩ := z
  have ne : c ≠ a := ha.elim (fun z => by rw [z]; exact f1) fun z e => f4 y a z e.symm
  exact ⟨m, ns.sameBut sb ne, fun h3 sb3 => ⟨_, H', I2.turned (t' := s2.toks) (fun b o hb e => (sb3.2 b hb).trans e) f0 f1 f3 f4 f5, q⟩⟩
end
/-! ### a lambda with parameters, handed to a def of the program and called there -/
section
open LamX NdefX
variable {X : Cx} {pins : List (Addr × Obj)} {σ : L2.St} {H : Hp} {s : Shared}
/-- the lambda's words, the cells that it captured, its code object -/
abbrev lamF (X : Cx) (params : Arguments) (scope : Scope) (c' : Addr) : NF := ⟨"<lambda>", X.env.qual ++ "<lambda>", params, [], scope, cloFrom X.env.cells scope.names [], c'⟩
/-- what the cells held they hold still, over frames that are others -/
theorem cells_un {cl : List (Str × Addr)} {fr : List Str} {ws : List (Option V)} {fs : List Addr} {H HZ : Hp} {h hZ : Heap} (C : CellsAt cl fr ws h H) (un : Un fs [] H HZ h hZ) : CellsAt cl fr ws hZ HZ := by
  have kp : ∀ y c, cl.lookup y = some c → ∀ v, h.IsCell c v → hZ.IsCell c v := fun y c e v ⟨o, ho, hd⟩ => by
    obtain ⟨sl, q⟩ := un.any ho (C.all y c e).1 (by simp)
    exact ⟨_, q, hd⟩
  refine ⟨C.len, fun y c e => ?_, C.inj, fun i y e => ?_⟩
  · obtain ⟨n, v, z⟩ := C.all y c e
    refine ⟨?_, v, kp y c e v z⟩
    obtain ⟨o, ho, _⟩ := z
    exact un.free c o ho n (by simp)
  · obtain ⟨c, hc, hv⟩ := C.has i y e
    refine ⟨c, hc, fun v ev => ?_⟩
    obtain ⟨u, r, z⟩ := hv v ev
    exact ⟨u, r, kp y c hc _ z⟩
/-- a(e, ..), in the def that got the lambda: that def was entered at s -/
theorem pe_actN {Ng : List Str} {qg : Str} {sg : Scope} {g f c' : Addr} {cdg pm ctv : Value} {params : Arguments} {body : Expr} {scope : Scope} {k i : Nat} {a : Str} {tb : TE} {ta : TA} {e : Expr} {es : List Expr} {p1 p2 : Pos} {ps fr : List Str} {js : List Nat}
    (I : Inv X pins σ H s) (S : NScope (ps ++ fr) ps fr scope) (cp : Caps X (cloFrom X.env.cells scope.names []) fr js)
    (hf : s.heap.get? f = some (PySem.W.kla_obj "<lambda>" (X.env.qual ++ "<lambda>") params body scope (cloFrom X.env.cells scope.names []) pm c' ctv)) (hfn : H f = none) (hfr : f ∉ frs X.stack)
    (hbind : ∀ (q : Str) (cl : List (Str × Addr)) (pm cv ctv : Value) (us : List Value), us.length = ps.length → bindArgs (PySem.W.kla_fn "<lambda>" q params body scope cl pm cv ctv) ⟨us, []⟩ = pure (ps.zip us))
    (hr : Room (k + 1) (X.A.deeper (envOfC qg sg s.heap.objs.size g cdg)))
    (hbody : ∀ (A : Around) (outer : List Env) (s : Shared) (H : Hp), Room k (A.deeper (envF (lamF X params scope c') f s.heap.objs.size)) → PE (ncx C8.CX0 X.prog X.w X.K X.mg X.base (ps ++ fr) (lamF X params scope c') f A outer s H C8.E0) body tb)
    (hN : Ng[i]? = some a) (hv : Vis sg a) (ha : PA (cxOf C8.CX0 X.prog X.w X.K X.mg X.base Ng qg sg g cdg X.A X.stack s H C8.E0).nox (e :: es) ta) (hd : (a == ("__debug__" : Str)) = false := by decide) (hcd : (a == ("__classdict__" : Str)) = false := by decide)
    (he : starEach (e :: es) (envOfC qg sg s.heap.objs.size g cdg) = (false, eval e (envOfC qg sg s.heap.objs.size g cdg)) :: starEach es (envOfC qg sg s.heap.objs.size g cdg) := by rfl) (hpl : (backTo p2 (starEach es (envOfC qg sg s.heap.objs.size g cdg))).any (·.1) = false := by rfl) :
    PE (cxOf C8.CX0 X.prog X.w X.K X.mg X.base Ng qg sg g cdg X.A X.stack s H C8.E0).nox (.Call (.Name a p1) (e :: es) [] p2)
      (fun σZ HZ Q => σZ[i]? = some (some (.ref f)) ∧ ta σZ HZ fun vs H1 => H1 c' = some (CodeO c' (X.env.qual ++ "<lambda>")) ∧ vs.length = ps.length ∧ tb (startF (ps ++ fr) vs (js.map (slotAt σ))) H1 Q) := by
  refine ⟨fun pinsZ sZ σZ HZ Q IZ h => ?_⟩
  obtain ⟨hs, ht⟩ := h
  refine wpAny_Call_Name_kw (thn ((pe_var (pos := p1) (i := i) hN hv hd hcd).run pinsZ sZ σZ HZ (fun v H1 => v = .ref f ∧ H1 = HZ) IZ ⟨.ref f, hs, rfl, rfl⟩) fun u s1 z => ?_)
  obtain ⟨v, H1, I1, r1, rfl, rfl⟩ := z
  obtain rfl : u = Value.ref f := r1
  have of1 := I1.base.keep f _ hf hfn hfr (fun z => nomatch (show f ∈ ([] : List Addr) from z))
  refine PySem.W.callWith_F (first := []) ⟨_, _, _, _, of1⟩ (thn (ha.run p2 pinsZ s1 σZ H1 _ I1 ht) fun us s2 z => ?_) he hpl
  obtain ⟨vs, H2, I2, r, hc, hl, hq⟩ := z
  have of2 := I2.base.keep f _ hf hfn hfr (fun z => nomatch (show f ∈ ([] : List Addr) from z))
  refine ⟨⟨_, _, _, _, of2⟩, ?_⟩
  show wpAny _ _ (call (.ref f) us) _ _ _
  have un : Un (frs X.stack) [] H H2 s.heap s2.heap := I2.base
  obtain ⟨⟨oc, vz, t, hoc, hdc, hvc⟩, _, _⟩ := I2.hok c' _ hc
  have C := cells_un (cells_of I cp) un
  have rc : codeAny (model X.prog X.w) (X.A.deeper (envOfC qg sg s.heap.objs.size g cdg)) (.call (.ref f) ⟨us, []⟩) (CR C8.CX0 (envOfC qg sg s.heap.objs.size g cdg :: X.stack) X.prog X.w H2 s2 Q C8.E0) s2 := by
    refine PySem.W.kla_callFunE hr.depth of2 rfl S.co S.gen rfl ⟨c', oc, vz, t, rfl, hoc, hdc, hvc⟩ ?_
    rw [hbind _ _ _ _ _ us (by rw [← r.length]; exact hl)]
    refine wpAny_pure (wpAny_newFunctionEnv S.nocell (fun ⟨n, _⟩ hy => S.par n (List.of_mem_zip hy).1) (fun h₁ hns hsb => ⟨I2.nolimit.fresh _ hsb, ?_⟩) S.kind)
    show codeAny _ _ (.expr body (envF (lamF X params scope c') f s2.heap.objs.size)) _ _
    have kp : ∀ b o, s2.heap.get? b = some o → h₁.get? b = some o := fun b o e => hsb.extBut b o (Nat.ne_of_lt (Heap.lt_size e)) (Heap.get?_push_of_some _ e)
    have J : Inv (ncx C8.CX0 X.prog X.w X.K X.mg X.base (ps ++ fr) (lamF X params scope c') f _ _ s2 H2 C8.E0) [] (startF (ps ++ fr) vs (js.map (slotAt σ))) H2 { s2 with heap := h₁, toks := s2.toks + (ps.zip us).length } := inv_startN (F := lamF X params scope c') S hr.hd I2.env0 hl r C hns kp
    refine PySem.W.kla_codeExpr (wpAny_mono ((hbody _ _ s2 H2 (hr.deeper _)).run [] _ _ H2 Q J hq) (fun v s' hq => ?_) fun e s' hq => hq)
    obtain ⟨w', H', J', rv, q⟩ := hq
    exact ⟨w', H', J'.os, J'.bare, J'.base, J'.hok, rv, q⟩
  refine wpAny_call (codeAny_mono rc fun r s' hq => ?_)
  cases r with
  | error e => exact (show False from hq).elim
  | ok fl =>
    cases fl with
    | ret u => exact I2.after hq
    | next => exact False.elim hq
    | brk => exact False.elim hq
    | cont => exact False.elim hq
end
/-! ### lambdas, with defaults or without, kept as values and called by _law_tried -/
section
open LamX NdefX
/-- the words of a lambda, the cells that it captured, its code object, its defaults -/
structure LF where
  qual : Str
  params : Arguments
  body : Expr
  scope : Scope
  cl : List (Str × Addr)
  c : Addr
  dV : Value
abbrev LF.fd (L : LF) (doc pm ctv : Value) : FuncData := PySem.W.kdv_fn "<lambda>" L.qual L.params (.expr L.body) L.scope L.cl L.dV doc pm (.ref L.c) ctv
abbrev LF.nf (L : LF) : NF := ⟨"<lambda>", L.qual, L.params, [], L.scope, L.cl, L.c⟩
def LamO (f : Addr) (L : LF) : HO := .ext fun h => ∃ (od : Option Addr) (sl : Array (Option Value)) (doc pm ctv : Value), h.get? f = some (⟨.type "function", od, .func (L.fd doc pm ctv), sl⟩ : Obj)
theorem lamO_ne {f : Addr} {L : LF} (ps : Array Value) : LamO f L ≠ .tbl ps := fun z => by
  unfold LamO at z
  cases z
/-- its defaults: none, or a tuple of whole numbers -/
def Dflts (H : Hp) (dV : Value) (ds : List Int) : Prop := (ds = [] ∧ dV = .none) ∨ (ds ≠ [] ∧ ∃ t, dV = .ref t ∧ H t = some (.tup (ds.map V.int)))
theorem Dflts.ext {H H' : Hp} {dV : Value} {ds : List Int} (h : Dflts H dV ds) (e : ExtN H H') : Dflts H' dV ds := by
  rcases h with h | ⟨n, t, e1, e2⟩
  · exact .inl h
  · exact .inr ⟨n, t, e1, e _ _ e2 (fun _ z => nomatch z)⟩
section
variable {X : Cx} {pins : List (Addr × Obj)} {σ : L2.St} {H : Hp} {s : Shared}
theorem inv_lam {L : LF} {t' : Nat} {doc pm ctv : Value} (I : Inv X pins σ H s) :
    Inv X pins σ (upd H s.heap.objs.size (LamO s.heap.objs.size L)) { s with heap := s.heap.push { cls := .type "function", data := .func (L.fd doc pm ctv) }, toks := t' } := by
  refine I.laid (fun b u e => Heap.get?_push_of_some _ e) (Nat.le_refl _) ?_
  have e : (s.heap.push ({ cls := .type "function", data := .func (L.fd doc pm ctv) } : Obj)).get? s.heap.objs.size = some ({ cls := .type "function", data := .func (L.fd doc pm ctv) } : Obj) := Heap.get?_push_size _ rfl
  exact ⟨⟨_, _, doc, pm, ctv, e⟩, ⟨_, e⟩, fun h1 h2 ⟨od, sl, d, p, t, z⟩ st => ⟨od, sl, d, p, t, st _ z⟩⟩
abbrev lamL (X : Cx) (params : Arguments) (body : Expr) (scope : Scope) (c' : Addr) (dV : Value) : LF := ⟨X.env.qual ++ "<lambda>", params, body, scope, cloFrom X.env.cells scope.names [], c', dV⟩
theorem lam_tail {T : List (Addr × Str)} {c P : Addr} {params : Arguments} {body : Expr} {scope : Scope} {pos : Pos} {dV : Value} {E : Value → Shared → Prop} {Q : Value → Shared → Prop} (I : Inv X pins σ H s) (tab : TabB X.base X.mg c P) (hcode : X.env.code = .ref c)
    (hm : (P, X.env.qual ++ "<lambda>") ∈ T) (hu : ∀ p ∈ T, p.1 = P → p.2 = X.env.qual ++ "<lambda>") (hT : Tabs T H) (hfree : ∀ y ∈ scope.names, y.2 = .free → ∃ c, X.env.cells.lookup y.1 = some c)
    (h : ∀ (f c' : Addr) (H1 : Hp) (s' : Shared), Inv X pins σ H1 s' → ExtN H H1 → Tabs T H1 → H1 f = some (LamO f (lamL X params body scope c' dV)) → H1 c' = some (CodeO c' (X.env.qual ++ "<lambda>")) → Q (.ref f) s') :
    wpAny (model X.prog X.w) X.A (makeTail "<lambda>" (X.env.qual ++ "<lambda>") params (.expr body) scope X.env dV .none none pos pos.line) Q E s := by
  obtain ⟨ps, hP, htr, hall⟩ := hT _ hm
  have bP : s.heap.BuiltinsAt X.mg P := tab.bm.keeps I.bk
  have gP : s.heap.get? P = some { cls := .none, data := .fields ps } := I.hok P _ hP
  cases known : codeAmong pos ps.toList with
  | none =>
    refine PySem.W.kdv_makeTail (mg := X.mg) (c := c) (P := P) (ps := ps) (closure_ok hfree) I.ok.glob (I.mod.glob.keeps I.bk) hcode (tab.code.keeps I.bk) gP htr known tab.gP bP fun c' ctv doc h' tk hx ge lt hrec htb => ?_
    obtain ⟨c2, oc, vs, t, e2, hoc, hd, hv⟩ := hrec
    cases e2
    have fresh : H c' = none := I.hok.fresh ge
    have I1 := inv_table (t' := tk) (more := #[rawInt pos.line, rawInt pos.col, .ref c']) (h' := h') I hP (fun b o hb e => hx b o hb e) htb ge ⟨oc, vs, t, hoc, hd, hv⟩
    have ext1 : ExtN H (upd (upd H P (.tbl (ps ++ #[rawInt pos.line, rawInt pos.col, .ref c']))) c' (CodeO c' (X.env.qual ++ "<lambda>"))) := fun b o e n => by
      have nP : b ≠ P := fun z => n ps (Option.some.inj (e.symm.trans (by rw [z]; exact hP)))
      rw [upd_ne (ne_of_none e fresh), upd_ne nP]
      exact e
    have lst : (ps ++ #[rawInt pos.line, rawInt pos.col, .ref c']).toList = ps.toList ++ [rawInt pos.line, rawInt pos.col, .ref c'] := by simp
    have tabs1 : Tabs T (upd (upd H P (.tbl (ps ++ #[rawInt pos.line, rawInt pos.col, .ref c']))) c' (CodeO c' (X.env.qual ++ "<lambda>"))) := fun p hp => by
      by_cases hb : p.1 = P
      · rw [hu p hp hb, hb]
        refine ⟨_, by rw [upd_ne (ne_of_none hP fresh), upd_same], by rw [lst]; exact PySem.TriplesOk_snoc _ _ _ _ htr, fun p' cv hcv => ?_⟩
        rw [lst] at hcv
        rcases among_app _ htr hcv with z | z
        · obtain ⟨c0, e1, e2⟩ := hall p' cv z
          exact ⟨c0, e1, ext1 _ _ e2 codeO_ne⟩
        · exact ⟨c', z, upd_same⟩
      · obtain ⟨ps', a1, a2, a3⟩ := hT p hp
        refine ⟨ps', by rw [upd_ne (ne_of_none a1 fresh), upd_ne hb]; exact a1, a2, fun p' cv hcv => ?_⟩
        obtain ⟨c0, e1, e2⟩ := a3 p' cv hcv
        exact ⟨c0, e1, ext1 _ _ e2 codeO_ne⟩
    have nf := I1.hok.fresh (Nat.le_refl _)
    have I2 := inv_lam (L := lamL X params body scope c' dV) (t' := tk) (doc := doc) (pm := (X.mg "__name__").getD .none) (ctv := ctv) I1
    refine h h'.objs.size c' _ _ I2 (fun b o e n => ?_) (tabs1.ext fun b o e => ?_) upd_same ?_
    · have e1 := ext1 b o e n
      exact (upd_ne (ne_of_none e1 nf)).trans e1
    · exact (upd_ne (ne_of_none e nf)).trans e
    · exact (upd_ne (Nat.ne_of_lt lt)).trans upd_same
  | some cv =>
    obtain ⟨c', rfl, hco⟩ := hall pos cv known
    refine PySem.W.kdv_makeTailHit (mg := X.mg) (c := c) (P := P) (ps := ps) (closure_ok hfree) I.ok.glob (I.mod.glob.keeps I.bk) hcode (tab.code.keeps I.bk) gP htr known bP fun ctv doc h' tk hx hsz => ?_
    have I1 : Inv X pins σ H { s with heap := h', toks := tk } := I.kept hx
    have nf : H h'.objs.size = none := I1.hok.fresh (Nat.le_refl _)
    have I2 := inv_lam (L := lamL X params body scope c' dV) (t' := tk) (doc := doc) (pm := (X.mg "__name__").getD .none) (ctv := ctv) I1
    refine h h'.objs.size c' _ _ I2 (fun b o e n => ?_) (hT.ext fun b o e => ?_) upd_same ?_
    · exact (upd_ne (ne_of_none e nf)).trans e
    · exact (upd_ne (ne_of_none e nf)).trans e
    · exact (upd_ne (ne_of_none hco nf)).trans hco
end
/-- whole numbers as they are written -/
def Consts (X : Cx) : List Expr → List Int → Prop
  | [], [] => True
  | e :: es, d :: ds => PE X e (tC (.int d)) ∧ Consts X es ds
  | _, _ => False
theorem consts_eval {X : Cx} {pins : List (Addr × Obj)} {σ : L2.St} {H : Hp} : ∀ {es : List Expr} {ds : List Int} {s : Shared} {Q : List Value → Shared → Prop}, Consts X es ds → Inv X pins σ H s → (∀ us s1, Inv X pins σ H s1 → Vals (ds.map V.int) us → Q us s1) → wpAny (model X.prog X.w) X.A (evalAll (evalEach es X.env)) Q X.xe s
  | [], [], s, Q, _, I, h => PySem.W.kdv_all0 (h [] s I .nil)
  | [], _ :: _, _, _, c, _, _ => c.elim
  | _ :: _, [], _, _, c, _, _ => c.elim
  | e :: es, d :: ds, s, Q, c, I, h => by
    refine PySem.W.kdv_all1 (thn (c.1.run pins s σ H (fun v H1 => v = .int d ∧ H1 = H) I ⟨rfl, rfl⟩) fun u s1 z => ?_)
    obtain ⟨v, H1, I1, r1, rfl, rfl⟩ := z
    exact consts_eval c.2 I1 fun us s2 I2 r2 => h (u :: us) s2 I2 (.cons r1 r2)
/-- the reading of a lambda as a value -/
def tLamV (T : List (Addr × Str)) (mk : Addr → Value → LF) (ds : List Int) : TE := fun _ H Q => Tabs T H ∧ ∀ (f c' : Addr) (dV : Value) (H1 : Hp), ExtN H H1 → Tabs T H1 → Dflts H1 dV ds → H1 f = some (LamO f (mk c' dV)) → H1 c' = some (CodeO c' (mk c' dV).qual) → Q (.ref f) H1
section
variable {X : Cx}
theorem pe_lamv0 {T : List (Addr × Str)} {c P : Addr} {params : Arguments} {body : Expr} {scope : Scope} {pos : Pos} (tab : TabB X.base X.mg c P) (hcode : X.env.code = .ref c) (hm : (P, X.env.qual ++ "<lambda>") ∈ T) (hu : ∀ p ∈ T, p.1 = P → p.2 = X.env.qual ++ "<lambda>")
    (hfree : ∀ y ∈ scope.names, y.2 = .free → X.env.scope.names.lookup y.1 = some .cell ∨ X.env.scope.names.lookup y.1 = some .free) (hdef : defaultsOf params X.env = ([], [])) :
    PE X (.Lambda params body scope pos) (tLamV T (lamL X params body scope) []) := by
  refine ⟨fun pins s σ H Q I h => ?_⟩
  obtain ⟨hT, h⟩ := h
  have hf : ∀ y ∈ scope.names, y.2 = .free → ∃ c, X.env.cells.lookup y.1 = some c := fun y hy e => (hfree y hy e).elim (fun z => I.ok.has _ (.inl z)) fun z => I.ok.has _ (.inr z)
  refine PySem.W.kla_eval hdef ?_
  rw [makeFunction_eq]
  simp only [List.zip_nil_right, List.filterMap_nil, List.isEmpty_nil, if_true, pure_bind]
  exact lam_tail I tab hcode hm hu hT hf fun f c' H1 s' I1 e1 t1 h1 h2 => ⟨.ref f, H1, I1, rfl, h f c' .none H1 e1 t1 (.inl ⟨rfl, rfl⟩) h1 h2⟩
theorem pe_lamvD {T : List (Addr × Str)} {c P : Addr} {params : Arguments} {body : Expr} {scope : Scope} {pos : Pos} {ds : List Int} (tab : TabB X.base X.mg c P) (hcode : X.env.code = .ref c) (hm : (P, X.env.qual ++ "<lambda>") ∈ T) (hu : ∀ p ∈ T, p.1 = P → p.2 = X.env.qual ++ "<lambda>")
    (hfree : ∀ y ∈ scope.names, y.2 = .free → X.env.scope.names.lookup y.1 = some .cell ∨ X.env.scope.names.lookup y.1 = some .free) (hd0 : params.defaults.isEmpty = false) (hk0 : params.kw_defaults = []) (hne : ds ≠ []) (hlen : ds.length ≤ sizeLine) (hc : Consts X params.defaults ds) :
    PE X (.Lambda params body scope pos) (tLamV T (lamL X params body scope) ds) := by
  refine ⟨fun pins s σ H Q I h => ?_⟩
  obtain ⟨hT, h⟩ := h
  have hf : ∀ y ∈ scope.names, y.2 = .free → ∃ c, X.env.cells.lookup y.1 = some c := fun y hy e => (hfree y hy e).elim (fun z => I.ok.has _ (.inl z)) fun z => I.ok.has _ (.inr z)
  refine PySem.W.kdv_lam hd0 hk0 (consts_eval hc I fun us s1 I1 r1 => ?_)
  have une : us.isEmpty = false := by
    cases us with
    | nil =>
      have := r1.length
      rw [List.length_map] at this
      exact absurd (List.eq_nil_of_length_eq_zero this) hne
    | cons _ _ => rfl
  rw [makeFunction_eq]
  simp only [List.zip_nil_right, List.filterMap_nil, List.isEmpty_nil, if_true, pure_bind, une, Bool.false_eq_true, if_false]
  refine wpAny_bind (wpAny_newTextTuple ?_)
  have nt := I1.hok.fresh (Nat.le_refl _)
  have I2 : Inv X pins σ (upd H s1.heap.objs.size (.tup (ds.map V.int))) { s1 with heap := s1.heap.push { cls := .type "tuple", data := .seq us.toArray } } :=
    I1.laid (t' := s1.toks) (fun b u e => Heap.get?_push_of_some _ e) (Nat.le_refl _) ⟨by rw [List.length_map]; exact hlen, us, r1, ⟨_, Heap.get?_push_size _ rfl, rfl, _, rfl⟩⟩
  have e2 : Same H (upd H s1.heap.objs.size (.tup (ds.map V.int))) := same_upd nt
  refine lam_tail I2 tab hcode hm hu (hT.ext e2) hf fun f c' H1 s' I3 e3 t3 h1 h2 => ⟨.ref f, H1, I3, rfl, h f c' _ H1 ((ExtN.of e2).trans e3) t3 (.inr ⟨hne, _, rfl, e3 _ _ upd_same (fun _ z => nomatch z)⟩) h1 h2⟩
end
/-! ### the call -/
/-- what a call without arguments binds -/
def Binds0 (mk : Addr → Value → LF) (ps : List Str) : Prop := (ps = [] ∧ ∀ (c' : Addr) (doc pm ctv : Value), bindArgs ((mk c' .none).fd doc pm ctv) ⟨[], []⟩ = pure []) ∨
  (ps ≠ [] ∧ ∀ (c' : Addr) (dV doc pm ctv : Value) (us : List Value), us.length = ps.length → ∃ k, bindArgs ((mk c' dV).fd doc pm ctv) ⟨[], []⟩ = seqItems? dV >>= k ∧ k (some us.toArray) = pure (ps.zip us))
/-- a(), in a def entered at s0, a holding a lambda -/
theorem pe_actV {P : Program} {w : World} {K : PySem.W.Frag} {mg : Str → Option Value} {base : Heap} {CXg : CXT} {Eg : XK} {Ng : List Str} {qg : Str} {sg : Scope} {g f c' : Addr} {cdg dV : Value} {mk : Addr → Value → LF} {k i : Nat} {a : Str} {pn : List (Addr × Obj)} {xe : Value → Shared → Prop} {W : WX} {E : XK} {tb : TE} {p1 p2 : Pos}
    {A' : Around} {outer' : List Env} {s0 : Shared} {H0 : Hp} {ps fr : List Str} {ws : List (Option V)} {ds : List Int} (S : NScope (ps ++ fr) ps fr (mk c' dV).scope) (C : CellsAt (mk c' dV).cl fr ws s0.heap H0) (hc0 : (mk c' dV).c = c') (hd0 : (mk c' dV).dV = dV) (hb : Binds0 mk ps) (hl : ds.length = ps.length)
    (tk : Takes ((cxOf CXg P w K mg base Ng qg sg g cdg A' outer' s0 H0 Eg).tr pn xe) W) (hW : ∀ cls d σ' H', E cls d H' → W cls d σ' H') (hr : Room (k + 1) (A'.deeper (envOfC qg sg s0.heap.objs.size g cdg)))
    (hbody : ∀ (A : Around) (outer : List Env) (s : Shared) (H : Hp), Room k (A.deeper (envF (mk c' dV).nf f s.heap.objs.size)) → PE (ncx (L2.CX P w) P w K mg base (ps ++ fr) (mk c' dV).nf f A outer s H E) (mk c' dV).body tb)
    (hN : Ng[i]? = some a) (hv : Vis sg a) (hd : (a == ("__debug__" : Str)) = false := by decide) (hcd : (a == ("__classdict__" : Str)) = false := by decide) :
    PE ((cxOf CXg P w K mg base Ng qg sg g cdg A' outer' s0 H0 Eg).tr pn xe) (.Call (.Name a p1) [] [] p2)
      (fun σZ HZ Q => σZ[i]? = some (some (.ref f)) ∧ HZ c' = some (CodeO c' (mk c' dV).qual) ∧ HZ f = some (LamO f (mk c' dV)) ∧ Dflts HZ dV ds ∧ tb (startF (ps ++ fr) (ds.map V.int) ws) HZ Q) := by
  refine ⟨fun pinsZ sZ σZ HZ Q IZ h => ?_⟩
  obtain ⟨hs, hc, hf, hdf, ht⟩ := h
  refine wpAny_Call_Name_kw (thn ((pe_var (pos := p1) (i := i) hN hv hd hcd).run pinsZ sZ σZ HZ (fun v H1 => v = .ref f ∧ H1 = HZ) IZ ⟨.ref f, hs, rfl, rfl⟩) fun u s1 z => ?_)
  obtain ⟨v, H1, I1, r1, rfl, rfl⟩ := z
  obtain rfl : u = Value.ref f := r1
  obtain ⟨⟨od, sl, doc, pm, ctv, of1⟩, _, _⟩ := I1.hok f _ hf
  refine PySem.W.callWith_F0 ⟨_, _, _, _, of1⟩ ?_
  obtain ⟨⟨oc, vz, t, hoc, hdc, hvc⟩, _, _⟩ := I1.hok c' _ hc
  have CZ := cells_un C (show Un (frs outer') [] H0 H1 s0.heap s1.heap from I1.base)
  have hx : Passes (L2.CX P w) ((cxOf CXg P w K mg base Ng qg sg g cdg A' outer' s0 H0 Eg).tr pn xe) E := passes_call tk hW
  obtain ⟨us, rv, bt⟩ : ∃ us, Vals (ds.map V.int) us ∧ BindsTo s1 ((mk c' dV).fd doc pm ctv) ⟨[], []⟩ (ps.zip us) := by
    rcases hdf with ⟨rfl, rfl⟩ | ⟨hne, t, rfl, htp⟩
    · have hp : ps = [] := List.eq_nil_of_length_eq_zero hl.symm
      rcases hb with ⟨_, e⟩ | ⟨n, _⟩
      · subst hp
        exact ⟨[], .nil, BindsTo.of_eq (e c' doc pm ctv)⟩
      · exact absurd hp n
    · obtain ⟨us, rv, ⟨ol, hol, _, nl, hdl⟩, _⟩ := I1.tuple (SqT.of htp)
      have ul : us.length = ps.length := by rw [← rv.length, List.length_map]; exact hl
      rcases hb with ⟨hp, _⟩ | ⟨_, e⟩
      · subst hp
        exact absurd (List.eq_nil_of_length_eq_zero hl) hne
      · obtain ⟨k', e1, e2⟩ := e c' (.ref t) doc pm ctv us ul
        exact ⟨us, rv, BindsTo.of_defaults (T := t) hd0 hol hdl (by show bindArgs _ _ = seqItems? (mk c' (.ref t)).dV >>= _; rw [hd0]; exact e1) e2⟩
  have rc : codeAny (model P w) (A'.deeper (envOfC qg sg s0.heap.objs.size g cdg)) (.call (.ref f) ⟨[], []⟩) (CR (L2.CX P w) (envOfC qg sg s0.heap.objs.size g cdg :: outer') P w H1 s1 Q E) s1 := by
    refine PySem.W.kla_callFunE hr.depth of1 rfl S.co S.gen rfl (by show s1.heap.CodeRec (.ref (mk c' dV).c) _; rw [hc0]; exact ⟨c', oc, vz, t, rfl, hoc, hdc, hvc⟩) (bt _ _ _ _ ?_)
    refine wpAny_newFunctionEnv S.nocell (fun ⟨n, _⟩ hy => S.par n (List.of_mem_zip hy).1) (fun h₁ hns hsb => ⟨I1.nolimit.fresh _ hsb, ?_⟩) S.kind
    show codeAny _ _ (.expr (mk c' dV).body (envF (mk c' dV).nf f s1.heap.objs.size)) _ _
    have kp : ∀ b o, s1.heap.get? b = some o → h₁.get? b = some o := fun b o e => hsb.extBut b o (Nat.ne_of_lt (Heap.lt_size e)) (Heap.get?_push_of_some _ e)
    have J : Inv (ncx (L2.CX P w) P w K mg base (ps ++ fr) (mk c' dV).nf f _ _ s1 H1 E) [] (startF (ps ++ fr) (ds.map V.int) ws) H1 { s1 with heap := h₁, toks := s1.toks + (ps.zip us).length } := inv_startN (F := (mk c' dV).nf) S hr.hd I1.env0 (by rw [List.length_map]; exact hl) rv CZ hns kp
    refine PySem.W.kla_codeExpr (wpAny_mono ((hbody _ _ s1 H1 (hr.deeper _)).run [] _ _ H1 Q J ht) (fun v s' hq => ?_) fun e s' hq => hq)
    obtain ⟨w', H', J', rv, q⟩ := hq
    exact ⟨w', H', J'.os, J'.bare, J'.base, J'.hok, rv, q⟩
  refine wpAny_call (codeAny_mono rc fun r s' hq => ?_)
  cases r with
  | error e => exact hx pinsZ σZ H1 s1 e s' I1 hq
  | ok fl =>
    cases fl with
    | ret u => exact I1.after hq
    | next => exact False.elim hq
    | brk => exact False.elim hq
    | cont => exact False.elim hq
end
/-! ### the __init__s of the refusals -/
theorem ws_0 {ws : List V} (h : ws.length = 0) : ws = [] := List.length_eq_zero_iff.mp h
theorem ws_1 {ws : List V} (h : ws.length = 1) : ∃ a, ws = [a] := match ws, h with | [a], _ => ⟨a, rfl⟩
theorem ws_2 {ws : List V} (h : ws.length = 2) : ∃ a b, ws = [a, b] := match ws, h with | [a, b], _ => ⟨a, b, rfl⟩
abbrev sI_TearError : Stmt := inClass (topS 2) 0
theorem scI_TearError : FnScope ["self", "word"] ["self", "word"] (defScope sI_TearError) := ⟨rfl, rfl, rfl, by decide +kernel, rfl, by decide +kernel, by decide +kernel⟩
theorem okI_TearError {P : Program} {w : World} {K : PySem.W.Frag} {mg : Str → Option Value} {base : Heap} {f : Addr} {fd : FuncData} {k : Nat} {ds : List V} (F : FunD K "__init__" "TearError.__init__" (defArgs sI_TearError) (defBody sI_TearError) (defScope sI_TearError) ds [] f fd) :
    FnOk P w K mg base CX0 (k + 1) f fd ["self", "word"] (spBase K) := by
  refine F.ok (CX := CX0) scI_TearError (fun vs H Q E h => ?_) (fun cdv A outer s H vs Q E hr h => ?_)
  · obtain ⟨a, C, y, rfl, _⟩ := h
    rfl
  · obtain ⟨a, C, y, rfl, T, hw, ha, q⟩ := h
    refine ⟨_, PSs.nox (pss_one (ps_gst (pv 0) (pv 1) rfl)), ?_⟩
    exact ⟨y, rfl, .ref a, rfl, a, C, rfl, T, hw, .inl ⟨ha, fun dx h1 h2 => q dx h1 h2⟩⟩
abbrev sI_Missing : Stmt := inClass (topS 26) 0
theorem scI_Missing : FnScope ["self", "word"] ["self", "word"] (defScope sI_Missing) := ⟨rfl, rfl, rfl, by decide +kernel, rfl, by decide +kernel, by decide +kernel⟩
theorem okI_Missing {P : Program} {w : World} {K : PySem.W.Frag} {mg : Str → Option Value} {base : Heap} {f : Addr} {fd : FuncData} {k : Nat} {ds : List V} (F : FunD K "__init__" "Missing.__init__" (defArgs sI_Missing) (defBody sI_Missing) (defScope sI_Missing) ds [] f fd) :
    FnOk P w K mg base CX0 (k + 1) f fd ["self", "word"] (spBase K) := by
  refine F.ok (CX := CX0) scI_Missing (fun vs H Q E h => ?_) (fun cdv A outer s H vs Q E hr h => ?_)
  · obtain ⟨a, C, y, rfl, _⟩ := h
    rfl
  · obtain ⟨a, C, y, rfl, T, hw, ha, q⟩ := h
    refine ⟨_, PSs.nox (pss_one (ps_gst (pv 0) (pv 1) rfl)), ?_⟩
    exact ⟨y, rfl, .ref a, rfl, a, C, rfl, T, hw, .inl ⟨ha, fun dx h1 h2 => q dx h1 h2⟩⟩
abbrev sI_OtherBook : Stmt := inClass (topS 10) 0
theorem scI_OtherBook : FnScope ["self"] ["self"] (defScope sI_OtherBook) := ⟨rfl, rfl, rfl, by decide +kernel, rfl, by decide +kernel, by decide +kernel⟩
theorem okI_OtherBook {P : Program} {w : World} {K : PySem.W.Frag} {mg : Str → Option Value} {base : Heap} {f C CB fB : Addr} {fd fdB : FuncData} {k : Nat} (F : Fun K "__init__" "OtherBook.__init__" sI_OtherBook f fd) (T : OexG K C) (hw : PySem.W.findIn K (.ref C) "word" = some none)
    (B : CFn K CB "__init__" fB) (GB : FnOk P w K mg base CX0 k fB fdB ["self", "word"] (spBase K)) (bB : Binds K fdB ["self", "word"] []) (mB : mg "TearError" = some (.ref CB)) :
    FnOk P w K mg base CX0 (k + 1) f fd ["self"] (spMade C 0 (fun ws => [("word", .str "OtherBook")])) := by
  refine F.ok scI_OtherBook (fun vs H Q E h => ?_) (fun cdv A outer s H vs Q E hr h => ?_)
  · obtain ⟨a, ws, rfl, hl, _⟩ := h
    rw [List.length_cons, hl]
    rfl
  · obtain ⟨a, ws, rfl, hl, ha, q⟩ := h
    obtain rfl := ws_0 hl
    refine ⟨_, pss_one (ps_expr (pe_cfn B GB hr bB .nil pass0 (by rfl) mB (pa_cons (pv 0) (pa_cons pe_str pa_nil)))), ?_⟩
    refine ⟨.ref a, rfl, a, C, _, rfl, T, hw, ha, fun dx h1 h2 => ?_⟩
    have nn : a ≠ dx := fun z => h2 z.symm
    refine q dx _ h1 h2 (fun b b1 b2 => ?_) upd_same ?_
    · rw [upd_ne b1, upd_ne b2]
    · rw [upd_ne h2, upd_same]
abbrev sI_NoFigure : Stmt := inClass (topS 28) 0
theorem scI_NoFigure : FnScope ["self", "figure"] ["self", "figure"] (defScope sI_NoFigure) := ⟨rfl, rfl, rfl, by decide +kernel, rfl, by decide +kernel, by decide +kernel⟩
theorem okI_NoFigure {P : Program} {w : World} {K : PySem.W.Frag} {mg : Str → Option Value} {base : Heap} {f C CB fB : Addr} {fd fdB : FuncData} {k : Nat} (F : Fun K "__init__" "NoFigure.__init__" sI_NoFigure f fd) (T : OexG K C) (hw : PySem.W.findIn K (.ref C) "word" = some none) (n_figure : PySem.W.findIn K (.ref C) "figure" = some none)
    (B : CFn K CB "__init__" fB) (GB : FnOk P w K mg base CX0 k fB fdB ["self", "word"] (spBase K)) (bB : Binds K fdB ["self", "word"] []) (mB : mg "Missing" = some (.ref CB)) :
    FnOk P w K mg base CX0 (k + 1) f fd ["self", "figure"] (spMade C 1 (fun ws => [("figure", ws.getD 0 .non), ("word", .str "NoFigure")])) := by
  refine F.ok scI_NoFigure (fun vs H Q E h => ?_) (fun cdv A outer s H vs Q E hr h => ?_)
  · obtain ⟨a, ws, rfl, hl, _⟩ := h
    rw [List.length_cons, hl]
    rfl
  · obtain ⟨a, ws, rfl, hl, ha, q⟩ := h
    obtain ⟨y0, rfl⟩ := ws_1 hl
    refine ⟨_, pss_cons (ps_expr (pe_cfn B GB hr bB .nil pass0 (by rfl) mB (pa_cons (pv 0) (pa_cons pe_str pa_nil)))) (pss_one (ps_gst (pv 0) (pv 1) rfl)), ?_⟩
    refine ⟨.ref a, rfl, a, C, _, rfl, T, hw, ha, fun dx h1 h2 => ?_⟩
    have nn : a ≠ dx := fun z => h2 z.symm
    refine ⟨y0, rfl, .ref a, rfl, a, C, rfl, T, n_figure, .inr ⟨dx, _, by rw [upd_same], by rw [upd_ne h2, upd_same], by simp, ?_⟩⟩
    refine q dx _ h1 h2 (fun b b1 b2 => ?_) ?_ ?_
    · rw [upd_ne b2, upd_ne b1, upd_ne b2]
    · rw [upd_ne nn, upd_same]
    · rw [upd_same]
      rfl
abbrev sI_NoPad : Stmt := inClass (topS 27) 0
theorem scI_NoPad : FnScope ["self", "pad"] ["self", "pad"] (defScope sI_NoPad) := ⟨rfl, rfl, rfl, by decide +kernel, rfl, by decide +kernel, by decide +kernel⟩
theorem okI_NoPad {P : Program} {w : World} {K : PySem.W.Frag} {mg : Str → Option Value} {base : Heap} {f C CB fB : Addr} {fd fdB : FuncData} {k : Nat} (F : Fun K "__init__" "NoPad.__init__" sI_NoPad f fd) (T : OexG K C) (hw : PySem.W.findIn K (.ref C) "word" = some none) (n_pad : PySem.W.findIn K (.ref C) "pad" = some none)
    (B : CFn K CB "__init__" fB) (GB : FnOk P w K mg base CX0 k fB fdB ["self", "word"] (spBase K)) (bB : Binds K fdB ["self", "word"] []) (mB : mg "Missing" = some (.ref CB)) :
    FnOk P w K mg base CX0 (k + 1) f fd ["self", "pad"] (spMade C 1 (fun ws => [("pad", ws.getD 0 .non), ("word", .str "NoPad")])) := by
  refine F.ok scI_NoPad (fun vs H Q E h => ?_) (fun cdv A outer s H vs Q E hr h => ?_)
  · obtain ⟨a, ws, rfl, hl, _⟩ := h
    rw [List.length_cons, hl]
    rfl
  · obtain ⟨a, ws, rfl, hl, ha, q⟩ := h
    obtain ⟨y0, rfl⟩ := ws_1 hl
    refine ⟨_, pss_cons (ps_expr (pe_cfn B GB hr bB .nil pass0 (by rfl) mB (pa_cons (pv 0) (pa_cons pe_str pa_nil)))) (pss_one (ps_gst (pv 0) (pv 1) rfl)), ?_⟩
    refine ⟨.ref a, rfl, a, C, _, rfl, T, hw, ha, fun dx h1 h2 => ?_⟩
    have nn : a ≠ dx := fun z => h2 z.symm
    refine ⟨y0, rfl, .ref a, rfl, a, C, rfl, T, n_pad, .inr ⟨dx, _, by rw [upd_same], by rw [upd_ne h2, upd_same], by simp, ?_⟩⟩
    refine q dx _ h1 h2 (fun b b1 b2 => ?_) ?_ ?_
    · rw [upd_ne b2, upd_ne b1, upd_ne b2]
    · rw [upd_ne nn, upd_same]
    · rw [upd_same]
      rfl
/-! ### the refusals by their numbers -/
def rNms : List Str := ["BadColours", "BadFigure", "Meeting", "TooMany", "TooFar", "BadOrder", "OtherColours", "OtherBook", "BadRow", "BadNote", "BadBeneath", "Full", "NoEnd", "NotStanding", "NeverClear", "BadDeed", "BadNumber", "NoBeginning", "Barred", "BadHeights", "BadWeights", "NoMean", "BadText", "NoPad", "NoFigure", "NoNote", "NothingBack", "NothingAgain"]
def rFls : List (List Str) := [["at"], ["at"], ["one", "other"], ["most"], ["most"], [], [], [], ["at"], ["note"], [], ["pad"], ["pad"], ["figure"], ["pad"], [], ["number"], [], ["pad"], ["at"], ["at"], [], ["at"], ["pad"], ["figure"], ["depth"], [], []]
def rNm (i : Nat) : Str := rNms.getD i ""
def rFl (i : Nat) : List Str := rFls.getD i []
/-- the fields of the refusal i with these values -/
def rFs (i : Nat) (ws : List V) : List (Str × V) := ((rFl i).zip ws).reverse ++ [(("word" : Str), V.str (rNm i))]
structure RefsT (K : PySem.W.Frag) (mg : Str → Option Value) (cm : Nat → Addr) : Prop where
  mgC : ∀ i, i < 28 → mg (rNm i) = some (.ref (cm i))
  xf : ∀ i, i < 28 → XfC K (cm i)
  nw : ∀ i, i < 28 → ∀ f ∈ ("word" : Str) :: rFl i, PySem.W.findIn K (.ref (cm i)) f = some none
  sub : ∀ i j, i < 28 → j < 28 → PySem.W.exmOne K (.ref (cm i)) (.ref (cm j)) = some (decide (i = j))
theorem RefsT.any {K : PySem.W.Frag} {mg : Str → Option Value} {cm : Nat → Addr} (T : RefsT K mg cm) {i : Nat} (hi : i < 28) : ∀ (js : List Nat), (∀ j ∈ js, j < 28) → PySem.W.exmAny K (.ref (cm i)) (js.map fun j => .ref (cm j)) = some (js.any fun j => decide (i = j)) := by
  intro js
  induction js with
  | nil => exact fun _ => rfl
  | cons j r ih =>
    intro h
    have a := T.sub i j hi (h j (List.mem_cons_self ..))
    have b := ih fun x hx => h x (List.mem_cons_of_mem _ hx)
    show PySem.W.exmAny K (.ref (cm i)) (.ref (cm j) :: r.map fun j => .ref (cm j)) = _
    unfold PySem.W.exmAny
    rw [a, b]
    rfl
theorem nmT {X : Cx} {K : PySem.W.Frag} {cm : Nat → Addr} {i : Nat} (T : RefsT K X.mg cm) (hi : i < 28) (hg : Gl X (rNm i)) (hd : (rNm i == ("__debug__" : Str)) = false) : Names X (rNm i) (.ref (cm i)) := ⟨hg, hd, .inl (T.mgC i hi)⟩
/-- e.f in an except suite, e a refusal of whatever class -/
def tXfr (K : PySem.W.Frag) (a : Addr) (cls : Value) (d : Option Addr) (f : Str) (te : TE) : TE := fun σ H Q => te σ H fun x H1 => ∃ (C dd : Addr) (fs : List (Str × V)) (v : V), x = .ref a ∧ cls = .ref C ∧ XfC K C ∧ PySem.W.findIn K (.ref C) f = some none ∧ d = some dd ∧ H1 dd = some (.xd fs) ∧ fs.lookup f = some v ∧ Q v H1
theorem pe_xfr {X : Cx} {a : Addr} {oe : Obj} {cls : Value} {d : Option Addr} {pn : List (Addr × Obj)} {e : Expr} {te : TE} {pos : Pos} {f : Str} (hz : Zc cls d oe) (hf : ∃ vs, oe.data = .fields vs) (he : PE (X.suite a ((a, oe) :: pn)) e te)
    (hb : attributeBase e f X.env (eval e X.env) = eval e X.env := by rfl) : PE (X.suite a ((a, oe) :: pn)) (.Attribute e f pos) (tXfr X.K a cls d f te) := by
  refine ⟨fun pins s σ H Q I h => ?_⟩
  refine attr_of hb (thn (he.run pins s σ H _ I h) fun u s1 hh => ?_)
  obtain ⟨x, H1, I1, rx, C, dd, fs, v, rfl, rfl, T, hno, rfl, ea, l, q⟩ := hh
  obtain rfl : u = Value.ref a := rx
  obtain ⟨ha, _⟩ := I1.pin (a, oe) (List.mem_append_left _ List.mem_cons_self)
  obtain ⟨vs, hd⟩ := hf
  have hx : ObjOk X.prog X.w H1 s1.heap dd (.xd fs) := I1.hok dd _ ea
  obtain ⟨mA, hns, hr⟩ := hx
  obtain ⟨od, ho, hl⟩ := lookIn_ns hns
  obtain ⟨u, hu, ru⟩ := RelO.some_of (v := v) (o := mA f) (by rw [← l]; exact hr f)
  have J : PySem.W.InstAt s1.heap a oe C (some od) := ⟨ha, hz.1, by unfold PySem.W.notCls; rw [hd] <;> rfl, by rw [hz.2]; exact ho⟩
  exact HandSPX.exc_get I1.kIn J T.ga T.gg T.exC (PySem.W.findObj_own T.hdC hno rfl (by rw [hl, hu])) (handed_of ru) ⟨v, H1, I1.tok _, ru, q⟩
theorem takes_len {X : Cx} {W : WX} (t : Takes X W) : Takes X (fun cls d σ H => σ.length = X.N.length → W cls d σ H) := fun u s' x => by
  obtain ⟨a, B, sI, pins, σ, H, cls, d, e, I, nb, up, sky, na, os, ag, w⟩ := x
  exact t u s' ⟨a, B, sI, pins, σ, H, cls, d, e, I, nb, up, sky, na, os, ag, w I.len⟩
/-- what _law_tried makes of the lambda's reading -/
def TTried (cm : Nat → Addr) : (XK → Hp → VK → Prop) → Hp → VK → Prop := fun tl H Q =>
  tl (fun cls d H' => ∃ (i : Nat) (ws : List V) (dd : Addr), i < 28 ∧ cls = .ref (cm i) ∧ d = some dd ∧ ws.length = (rFl i).length ∧ H' dd = some (.xd (rFs i ws)) ∧ ∀ p, H' p = none → Q (.ref p) (upd H' p (.tup (.str (rNm i) :: ws)))) H
    (fun v H1 => (2 : Nat) ≤ sizeLine ∧ ∀ p, H1 p = none → Q (.ref p) (upd H1 p (.tup [.str "told", v])))
abbrev sTried : Stmt := topS 69
abbrev nTried : List Str := ["_law_act", "e"]
theorem scTried : FnScope nTried ["_law_act"] (defScope sTried) := ⟨rfl, rfl, rfl, by decide +kernel, rfl, by decide +kernel, by decide +kernel⟩
theorem tried_gives {X : Cx} {cm : Nat → Addr} {g : Addr} {cdg : Value} {q : Str} (T : RefsT X.K X.mg cm) : LamX.GivesTo X nTried "_law_tried" (defScope sTried) g cdg (defBody sTried) "_law_act" q (TTried cm) := by
  intro f c' s H Q tl act hc h
  refine ⟨_, pss_one (ps_try_asN (X := (cxOf C8.CX0 X.prog X.w X.K X.mg X.base nTried "_law_tried" (defScope sTried) g cdg X.A X.stack s H C8.E0).nox) (i := 1) (n := "e")
      (tb := fun W D σ H => ∃ Ech : XK, (∀ cls d (σ' : L2.St) H', Ech cls d H' → σ'.length = 2 → W cls d σ' H') ∧ σ[0]? = some (some (.ref f)) ∧ H c' = some (LamX.CodeO c' q) ∧ tl Ech H (fun v H1 => (2 : Nat) ≤ sizeLine ∧ ∀ p, H1 p = none → D.rt (.ref p) (upd H1 p (.tup [.str "told", v]))))
      rfl rfl scTried.nd rfl rfl LamX.takes0 (fun W pn xe tk _ => ?_)
      (.cons (.tup (.cons (nmT (i := 0) T (by decide) (by rfl) (by decide)) (.cons (nmT (i := 1) T (by decide) (by rfl) (by decide)) (.cons (nmT (i := 8) T (by decide) (by rfl) (by decide)) (.cons (nmT (i := 19) T (by decide) (by rfl) (by decide)) (.cons (nmT (i := 20) T (by decide) (by rfl) (by decide)) (.cons (nmT (i := 22) T (by decide) (by rfl) (by decide)) .nil)))))) (by simp)) (fun a oe cls d pn hz hf => pss_one (ps_ret (pe_tup (pa_cons (pe_xfr hz hf (pv 1)) (pa_cons (pe_xfr hz hf (pv 1)) pa_nil)))))
        (.cons (.one (nmT (i := 2) T (by decide) (by rfl) (by decide))) (fun a oe cls d pn hz hf => pss_one (ps_ret (pe_tup (pa_cons (pe_xfr hz hf (pv 1)) (pa_cons (pe_xfr hz hf (pv 1)) (pa_cons (pe_xfr hz hf (pv 1)) pa_nil))))))
        (.cons (.tup (.cons (nmT (i := 3) T (by decide) (by rfl) (by decide)) (.cons (nmT (i := 4) T (by decide) (by rfl) (by decide)) .nil)) (by simp)) (fun a oe cls d pn hz hf => pss_one (ps_ret (pe_tup (pa_cons (pe_xfr hz hf (pv 1)) (pa_cons (pe_xfr hz hf (pv 1)) pa_nil)))))
        (.cons (.one (nmT (i := 9) T (by decide) (by rfl) (by decide))) (fun a oe cls d pn hz hf => pss_one (ps_ret (pe_tup (pa_cons (pe_xfr hz hf (pv 1)) (pa_cons (pe_xfr hz hf (pv 1)) pa_nil)))))
        (.cons (.tup (.cons (nmT (i := 11) T (by decide) (by rfl) (by decide)) (.cons (nmT (i := 12) T (by decide) (by rfl) (by decide)) (.cons (nmT (i := 14) T (by decide) (by rfl) (by decide)) (.cons (nmT (i := 18) T (by decide) (by rfl) (by decide)) (.cons (nmT (i := 23) T (by decide) (by rfl) (by decide)) .nil))))) (by simp)) (fun a oe cls d pn hz hf => pss_one (ps_ret (pe_tup (pa_cons (pe_xfr hz hf (pv 1)) (pa_cons (pe_xfr hz hf (pv 1)) pa_nil)))))
        (.cons (.tup (.cons (nmT (i := 13) T (by decide) (by rfl) (by decide)) (.cons (nmT (i := 24) T (by decide) (by rfl) (by decide)) .nil)) (by simp)) (fun a oe cls d pn hz hf => pss_one (ps_ret (pe_tup (pa_cons (pe_xfr hz hf (pv 1)) (pa_cons (pe_xfr hz hf (pv 1)) pa_nil)))))
        (.cons (.one (nmT (i := 16) T (by decide) (by rfl) (by decide))) (fun a oe cls d pn hz hf => pss_one (ps_ret (pe_tup (pa_cons (pe_xfr hz hf (pv 1)) (pa_cons (pe_xfr hz hf (pv 1)) pa_nil)))))
        (.cons (.one (nmT (i := 25) T (by decide) (by rfl) (by decide))) (fun a oe cls d pn hz hf => pss_one (ps_ret (pe_tup (pa_cons (pe_xfr hz hf (pv 1)) (pa_cons (pe_xfr hz hf (pv 1)) pa_nil)))))
        (.cons (.tup (.cons (nmT (i := 5) T (by decide) (by rfl) (by decide)) (.cons (nmT (i := 6) T (by decide) (by rfl) (by decide)) (.cons (nmT (i := 7) T (by decide) (by rfl) (by decide)) (.cons (nmT (i := 10) T (by decide) (by rfl) (by decide)) (.cons (nmT (i := 15) T (by decide) (by rfl) (by decide)) (.cons (nmT (i := 17) T (by decide) (by rfl) (by decide)) (.cons (nmT (i := 21) T (by decide) (by rfl) (by decide)) .nil))))))) (by simp)) (fun a oe cls d pn hz hf => pss_one (ps_ret (pe_tup (pa_cons (pe_xfr hz hf (pv 1)) pa_nil))))
        (.cons (.tup (.cons (nmT (i := 26) T (by decide) (by rfl) (by decide)) (.cons (nmT (i := 27) T (by decide) (by rfl) (by decide)) .nil)) (by simp)) (fun a oe cls d pn hz hf => pss_one (ps_ret (pe_tup (pa_cons (pe_xfr hz hf (pv 1)) pa_nil))))
        .nil))))))))))), ?_⟩
  · refine ⟨fun pins s' σ H' D I h' => ?_⟩
    obtain ⟨Ech, hW, h1, h2, h3⟩ := h'
    refine (pss_one (ps_ret (pe_tup (pa_cons pe_str (pa_cons (act (fun cls d σ' H' => σ'.length = 2 → W cls d σ' H') pn xe Ech _ _ (takes_len tk) hW) pa_nil))))).run pins s' σ H' D I ?_
    exact ⟨h1, h2, h3⟩
  · refine ⟨fun cls d H' => ∃ (i : Nat) (ws : List V) (dd : Addr), i < 28 ∧ cls = .ref (cm i) ∧ d = some dd ∧ ws.length = (rFl i).length ∧ H' dd = some (.xd (rFs i ws)) ∧ ∀ p, H' p = none → Q (.ref p) (upd H' p (.tup (.str (rNm i) :: ws))),
      fun cls d σ' H' z hs => ?_, rfl, hc, h⟩
    obtain ⟨i, ws, dd, hi, rfl, rfl, hl, hx, hq⟩ := z
    have at1 : ∀ a : Addr, (σ'.set 1 (some (V.ref a)))[1]? = some (some (V.ref a)) := fun a => List.getElem?_set_self (by omega)
    match i, hi with
    | 0, _ =>
      obtain ⟨y0, rfl⟩ := ws_1 hl
      refine ⟨true, T.any (i := 0) (by decide) [0, 1, 8, 19, 20, 22] (by decide), fun _ a ha => ?_, (fun z => nomatch z)⟩
      exact ⟨.ref a, at1 a, cm 0, dd, _, _, rfl, rfl, T.xf 0 (by decide), T.nw 0 (by decide) _ (by decide), rfl, hx, rfl, .ref a, at1 a, cm 0, dd, _, _, rfl, rfl, T.xf 0 (by decide), T.nw 0 (by decide) _ (by decide), rfl, hx, rfl, by show _ ≤ sizeLine; rw [sizeLine_eq]; simp, hq⟩
    | 1, _ =>
      obtain ⟨y0, rfl⟩ := ws_1 hl
      refine ⟨true, T.any (i := 1) (by decide) [0, 1, 8, 19, 20, 22] (by decide), fun _ a ha => ?_, (fun z => nomatch z)⟩
      exact ⟨.ref a, at1 a, cm 1, dd, _, _, rfl, rfl, T.xf 1 (by decide), T.nw 1 (by decide) _ (by decide), rfl, hx, rfl, .ref a, at1 a, cm 1, dd, _, _, rfl, rfl, T.xf 1 (by decide), T.nw 1 (by decide) _ (by decide), rfl, hx, rfl, by show _ ≤ sizeLine; rw [sizeLine_eq]; simp, hq⟩
    | 2, _ =>
      obtain ⟨y0, y1, rfl⟩ := ws_2 hl
      refine ⟨false, T.any (i := 2) (by decide) [0, 1, 8, 19, 20, 22] (by decide), (fun z => nomatch z), fun _ => ?_⟩
      refine ⟨true, T.any (i := 2) (by decide) [2] (by decide), fun _ a ha => ?_, (fun z => nomatch z)⟩
      exact ⟨.ref a, at1 a, cm 2, dd, _, _, rfl, rfl, T.xf 2 (by decide), T.nw 2 (by decide) _ (by decide), rfl, hx, rfl, .ref a, at1 a, cm 2, dd, _, _, rfl, rfl, T.xf 2 (by decide), T.nw 2 (by decide) _ (by decide), rfl, hx, rfl, .ref a, at1 a, cm 2, dd, _, _, rfl, rfl, T.xf 2 (by decide), T.nw 2 (by decide) _ (by decide), rfl, hx, rfl, by show _ ≤ sizeLine; rw [sizeLine_eq]; simp, hq⟩
    | 3, _ =>
      obtain ⟨y0, rfl⟩ := ws_1 hl
      refine ⟨false, T.any (i := 3) (by decide) [0, 1, 8, 19, 20, 22] (by decide), (fun z => nomatch z), fun _ => ?_⟩
      refine ⟨false, T.any (i := 3) (by decide) [2] (by decide), (fun z => nomatch z), fun _ => ?_⟩
      refine ⟨true, T.any (i := 3) (by decide) [3, 4] (by decide), fun _ a ha => ?_, (fun z => nomatch z)⟩
      exact ⟨.ref a, at1 a, cm 3, dd, _, _, rfl, rfl, T.xf 3 (by decide), T.nw 3 (by decide) _ (by decide), rfl, hx, rfl, .ref a, at1 a, cm 3, dd, _, _, rfl, rfl, T.xf 3 (by decide), T.nw 3 (by decide) _ (by decide), rfl, hx, rfl, by show _ ≤ sizeLine; rw [sizeLine_eq]; simp, hq⟩
    | 4, _ =>
      obtain ⟨y0, rfl⟩ := ws_1 hl
      refine ⟨false, T.any (i := 4) (by decide) [0, 1, 8, 19, 20, 22] (by decide), (fun z => nomatch z), fun _ => ?_⟩
      refine ⟨false, T.any (i := 4) (by decide) [2] (by decide), (fun z => nomatch z), fun _ => ?_⟩
      refine ⟨true, T.any (i := 4) (by decide) [3, 4] (by decide), fun _ a ha => ?_, (fun z => nomatch z)⟩
      exact ⟨.ref a, at1 a, cm 4, dd, _, _, rfl, rfl, T.xf 4 (by decide), T.nw 4 (by decide) _ (by decide), rfl, hx, rfl, .ref a, at1 a, cm 4, dd, _, _, rfl, rfl, T.xf 4 (by decide), T.nw 4 (by decide) _ (by decide), rfl, hx, rfl, by show _ ≤ sizeLine; rw [sizeLine_eq]; simp, hq⟩
    | 5, _ =>
      obtain rfl := ws_0 hl
      refine ⟨false, T.any (i := 5) (by decide) [0, 1, 8, 19, 20, 22] (by decide), (fun z => nomatch z), fun _ => ?_⟩
      refine ⟨false, T.any (i := 5) (by decide) [2] (by decide), (fun z => nomatch z), fun _ => ?_⟩
      refine ⟨false, T.any (i := 5) (by decide) [3, 4] (by decide), (fun z => nomatch z), fun _ => ?_⟩
      refine ⟨false, T.any (i := 5) (by decide) [9] (by decide), (fun z => nomatch z), fun _ => ?_⟩
      refine ⟨false, T.any (i := 5) (by decide) [11, 12, 14, 18, 23] (by decide), (fun z => nomatch z), fun _ => ?_⟩
      refine ⟨false, T.any (i := 5) (by decide) [13, 24] (by decide), (fun z => nomatch z), fun _ => ?_⟩
      refine ⟨false, T.any (i := 5) (by decide) [16] (by decide), (fun z => nomatch z), fun _ => ?_⟩
      refine ⟨false, T.any (i := 5) (by decide) [25] (by decide), (fun z => nomatch z), fun _ => ?_⟩
      refine ⟨true, T.any (i := 5) (by decide) [5, 6, 7, 10, 15, 17, 21] (by decide), fun _ a ha => ?_, (fun z => nomatch z)⟩
      exact ⟨.ref a, at1 a, cm 5, dd, _, _, rfl, rfl, T.xf 5 (by decide), T.nw 5 (by decide) _ (by decide), rfl, hx, rfl, by show _ ≤ sizeLine; rw [sizeLine_eq]; simp, hq⟩
    | 6, _ =>
      obtain rfl := ws_0 hl
      refine ⟨false, T.any (i := 6) (by decide) [0, 1, 8, 19, 20, 22] (by decide), (fun z => nomatch z), fun _ => ?_⟩
      refine ⟨false, T.any (i := 6) (by decide) [2] (by decide), (fun z => nomatch z), fun _ => ?_⟩
      refine ⟨false, T.any (i := 6) (by decide) [3, 4] (by decide), (fun z => nomatch z), fun _ => ?_⟩
      refine ⟨false, T.any (i := 6) (by decide) [9] (by decide), (fun z => nomatch z), fun _ => ?_⟩
      refine ⟨false, T.any (i := 6) (by decide) [11, 12, 14, 18, 23] (by decide), (fun z => nomatch z), fun _ => ?_⟩
      refine ⟨false, T.any (i := 6) (by decide) [13, 24] (by decide), (fun z => nomatch z), fun _ => ?_⟩
      refine ⟨false, T.any (i := 6) (by decide) [16] (by decide), (fun z => nomatch z), fun _ => ?_⟩
      refine ⟨false, T.any (i := 6) (by decide) [25] (by decide), (fun z => nomatch z), fun _ => ?_⟩
      refine ⟨true, T.any (i := 6) (by decide) [5, 6, 7, 10, 15, 17, 21] (by decide), fun _ a ha => ?_, (fun z => nomatch z)⟩
      exact ⟨.ref a, at1 a, cm 6, dd, _, _, rfl, rfl, T.xf 6 (by decide), T.nw 6 (by decide) _ (by decide), rfl, hx, rfl, by show _ ≤ sizeLine; rw [sizeLine_eq]; simp, hq⟩
    | 7, _ =>
      obtain rfl := ws_0 hl
      refine ⟨false, T.any (i := 7) (by decide) [0, 1, 8, 19, 20, 22] (by decide), (fun z => nomatch z), fun _ => ?_⟩
      refine ⟨false, T.any (i := 7) (by decide) [2] (by decide), (fun z => nomatch z), fun _ => ?_⟩
      refine ⟨false, T.any (i := 7) (by decide) [3, 4] (by decide), (fun z => nomatch z), fun _ => ?_⟩
      refine ⟨false, T.any (i := 7) (by decide) [9] (by decide), (fun z => nomatch z), fun _ => ?_⟩
      refine ⟨false, T.any (i := 7) (by decide) [11, 12, 14, 18, 23] (by decide), (fun z => nomatch z), fun _ => ?_⟩
      refine ⟨false, T.any (i := 7) (by decide) [13, 24] (by decide), (fun z => nomatch z), fun _ => ?_⟩
      refine ⟨false, T.any (i := 7) (by decide) [16] (by decide), (fun z => nomatch z), fun _ => ?_⟩
      refine ⟨false, T.any (i := 7) (by decide) [25] (by decide), (fun z => nomatch z), fun _ => ?_⟩
      refine ⟨true, T.any (i := 7) (by decide) [5, 6, 7, 10, 15, 17, 21] (by decide), fun _ a ha => ?_, (fun z => nomatch z)⟩
      exact ⟨.ref a, at1 a, cm 7, dd, _, _, rfl, rfl, T.xf 7 (by decide), T.nw 7 (by decide) _ (by decide), rfl, hx, rfl, by show _ ≤ sizeLine; rw [sizeLine_eq]; simp, hq⟩
    | 8, _ =>
      obtain ⟨y0, rfl⟩ := ws_1 hl
      refine ⟨true, T.any (i := 8) (by decide) [0, 1, 8, 19, 20, 22] (by decide), fun _ a ha => ?_, (fun z => nomatch z)⟩
      exact ⟨.ref a, at1 a, cm 8, dd, _, _, rfl, rfl, T.xf 8 (by decide), T.nw 8 (by decide) _ (by decide), rfl, hx, rfl, .ref a, at1 a, cm 8, dd, _, _, rfl, rfl, T.xf 8 (by decide), T.nw 8 (by decide) _ (by decide), rfl, hx, rfl, by show _ ≤ sizeLine; rw [sizeLine_eq]; simp, hq⟩
    | 9, _ =>
      obtain ⟨y0, rfl⟩ := ws_1 hl
      refine ⟨false, T.any (i := 9) (by decide) [0, 1, 8, 19, 20, 22] (by decide), (fun z => nomatch z), fun _ => ?_⟩
      refine ⟨false, T.any (i := 9) (by decide) [2] (by decide), (fun z => nomatch z), fun _ => ?_⟩
      refine ⟨false, T.any (i := 9) (by decide) [3, 4] (by decide), (fun z => nomatch z), fun _ => ?_⟩
      refine ⟨true, T.any (i := 9) (by decide) [9] (by decide), fun _ a ha => ?_, (fun z => nomatch z)⟩
      exact ⟨.ref a, at1 a, cm 9, dd, _, _, rfl, rfl, T.xf 9 (by decide), T.nw 9 (by decide) _ (by decide), rfl, hx, rfl, .ref a, at1 a, cm 9, dd, _, _, rfl, rfl, T.xf 9 (by decide), T.nw 9 (by decide) _ (by decide), rfl, hx, rfl, by show _ ≤ sizeLine; rw [sizeLine_eq]; simp, hq⟩
    | 10, _ =>
      obtain rfl := ws_0 hl
      refine ⟨false, T.any (i := 10) (by decide) [0, 1, 8, 19, 20, 22] (by decide), (fun z => nomatch z), fun _ => ?_⟩
      refine ⟨false, T.any (i := 10) (by decide) [2] (by decide), (fun z => nomatch z), fun _ => ?_⟩
      refine ⟨false, T.any (i := 10) (by decide) [3, 4] (by decide), (fun z => nomatch z), fun _ => ?_⟩
      refine ⟨false, T.any (i := 10) (by decide) [9] (by decide), (fun z => nomatch z), fun _ => ?_⟩
      refine ⟨false, T.any (i := 10) (by decide) [11, 12, 14, 18, 23] (by decide), (fun z => nomatch z), fun _ => ?_⟩
      refine ⟨false, T.any (i := 10) (by decide) [13, 24] (by decide), (fun z => nomatch z), fun _ => ?_⟩
      refine ⟨false, T.any (i := 10) (by decide) [16] (by decide), (fun z => nomatch z), fun _ => ?_⟩
      refine ⟨false, T.any (i := 10) (by decide) [25] (by decide), (fun z => nomatch z), fun _ => ?_⟩
      refine ⟨true, T.any (i := 10) (by decide) [5, 6, 7, 10, 15, 17, 21] (by decide), fun _ a ha => ?_, (fun z => nomatch z)⟩
      exact ⟨.ref a, at1 a, cm 10, dd, _, _, rfl, rfl, T.xf 10 (by decide), T.nw 10 (by decide) _ (by decide), rfl, hx, rfl, by show _ ≤ sizeLine; rw [sizeLine_eq]; simp, hq⟩
    | 11, _ =>
      obtain ⟨y0, rfl⟩ := ws_1 hl
      refine ⟨false, T.any (i := 11) (by decide) [0, 1, 8, 19, 20, 22] (by decide), (fun z => nomatch z), fun _ => ?_⟩
      refine ⟨false, T.any (i := 11) (by decide) [2] (by decide), (fun z => nomatch z), fun _ => ?_⟩
      refine ⟨false, T.any (i := 11) (by decide) [3, 4] (by decide), (fun z => nomatch z), fun _ => ?_⟩
      refine ⟨false, T.any (i := 11) (by decide) [9] (by decide), (fun z => nomatch z), fun _ => ?_⟩
      refine ⟨true, T.any (i := 11) (by decide) [11, 12, 14, 18, 23] (by decide), fun _ a ha => ?_, (fun z => nomatch z)⟩
      exact ⟨.ref a, at1 a, cm 11, dd, _, _, rfl, rfl, T.xf 11 (by decide), T.nw 11 (by decide) _ (by decide), rfl, hx, rfl, .ref a, at1 a, cm 11, dd, _, _, rfl, rfl, T.xf 11 (by decide), T.nw 11 (by decide) _ (by decide), rfl, hx, rfl, by show _ ≤ sizeLine; rw [sizeLine_eq]; simp, hq⟩
    | 12, _ =>
      obtain ⟨y0, rfl⟩ := ws_1 hl
      refine ⟨false, T.any (i := 12) (by decide) [0, 1, 8, 19, 20, 22] (by decide), (fun z => nomatch z), fun _ => ?_⟩
      refine ⟨false, T.any (i := 12) (by decide) [2] (by decide), (fun z => nomatch z), fun _ => ?_⟩
      refine ⟨false, T.any (i := 12) (by decide) [3, 4] (by decide), (fun z => nomatch z), fun _ => ?_⟩
      refine ⟨false, T.any (i := 12) (by decide) [9] (by decide), (fun z => nomatch z), fun _ => ?_⟩
      refine ⟨true, T.any (i := 12) (by decide) [11, 12, 14, 18, 23] (by decide), fun _ a ha => ?_, (fun z => nomatch z)⟩
      exact ⟨.ref a, at1 a, cm 12, dd, _, _, rfl, rfl, T.xf 12 (by decide), T.nw 12 (by decide) _ (by decide), rfl, hx, rfl, .ref a, at1 a, cm 12, dd, _, _, rfl, rfl, T.xf 12 (by decide), T.nw 12 (by decide) _ (by decide), rfl, hx, rfl, by show _ ≤ sizeLine; rw [sizeLine_eq]; simp, hq⟩
    | 13, _ =>
      obtain ⟨y0, rfl⟩ := ws_1 hl
      refine ⟨false, T.any (i := 13) (by decide) [0, 1, 8, 19, 20, 22] (by decide), (fun z => nomatch z), fun _ => ?_⟩
      refine ⟨false, T.any (i := 13) (by decide) [2] (by decide), (fun z => nomatch z), fun _ => ?_⟩
      refine ⟨false, T.any (i := 13) (by decide) [3, 4] (by decide), (fun z => nomatch z), fun _ => ?_⟩
      refine ⟨false, T.any (i := 13) (by decide) [9] (by decide), (fun z => nomatch z), fun _ => ?_⟩
      refine ⟨false, T.any (i := 13) (by decide) [11, 12, 14, 18, 23] (by decide), (fun z => nomatch z), fun _ => ?_⟩
      refine ⟨true, T.any (i := 13) (by decide) [13, 24] (by decide), fun _ a ha => ?_, (fun z => nomatch z)⟩
      exact ⟨.ref a, at1 a, cm 13, dd, _, _, rfl, rfl, T.xf 13 (by decide), T.nw 13 (by decide) _ (by decide), rfl, hx, rfl, .ref a, at1 a, cm 13, dd, _, _, rfl, rfl, T.xf 13 (by decide), T.nw 13 (by decide) _ (by decide), rfl, hx, rfl, by show _ ≤ sizeLine; rw [sizeLine_eq]; simp, hq⟩
    | 14, _ =>
      obtain ⟨y0, rfl⟩ := ws_1 hl
      refine ⟨false, T.any (i := 14) (by decide) [0, 1, 8, 19, 20, 22] (by decide), (fun z => nomatch z), fun _ => ?_⟩
      refine ⟨false, T.any (i := 14) (by decide) [2] (by decide), (fun z => nomatch z), fun _ => ?_⟩
      refine ⟨false, T.any (i := 14) (by decide) [3, 4] (by decide), (fun z => nomatch z), fun _ => ?_⟩
      refine ⟨false, T.any (i := 14) (by decide) [9] (by decide), (fun z => nomatch z), fun _ => ?_⟩
      refine ⟨true, T.any (i := 14) (by decide) [11, 12, 14, 18, 23] (by decide), fun _ a ha => ?_, (fun z => nomatch z)⟩
      exact ⟨.ref a, at1 a, cm 14, dd, _, _, rfl, rfl, T.xf 14 (by decide), T.nw 14 (by decide) _ (by decide), rfl, hx, rfl, .ref a, at1 a, cm 14, dd, _, _, rfl, rfl, T.xf 14 (by decide), T.nw 14 (by decide) _ (by decide), rfl, hx, rfl, by show _ ≤ sizeLine; rw [sizeLine_eq]; simp, hq⟩
    | 15, _ =>
      obtain rfl := ws_0 hl
      refine ⟨false, T.any (i := 15) (by decide) [0, 1, 8, 19, 20, 22] (by decide), (fun z => nomatch z), fun _ => ?_⟩
      refine ⟨false, T.any (i := 15) (by decide) [2] (by decide), (fun z => nomatch z), fun _ => ?_⟩
      refine ⟨false, T.any (i := 15) (by decide) [3, 4] (by decide), (fun z => nomatch z), fun _ => ?_⟩
      refine ⟨false, T.any (i := 15) (by decide) [9] (by decide), (fun z => nomatch z), fun _ => ?_⟩
      refine ⟨false, T.any (i := 15) (by decide) [11, 12, 14, 18, 23] (by decide), (fun z => nomatch z), fun _ => ?_⟩
      refine ⟨false, T.any (i := 15) (by decide) [13, 24] (by decide), (fun z => nomatch z), fun _ => ?_⟩
      refine ⟨false, T.any (i := 15) (by decide) [16] (by decide), (fun z => nomatch z), fun _ => ?_⟩
      refine ⟨false, T.any (i := 15) (by decide) [25] (by decide), (fun z => nomatch z), fun _ => ?_⟩
      refine ⟨true, T.any (i := 15) (by decide) [5, 6, 7, 10, 15, 17, 21] (by decide), fun _ a ha => ?_, (fun z => nomatch z)⟩
      exact ⟨.ref a, at1 a, cm 15, dd, _, _, rfl, rfl, T.xf 15 (by decide), T.nw 15 (by decide) _ (by decide), rfl, hx, rfl, by show _ ≤ sizeLine; rw [sizeLine_eq]; simp, hq⟩
    | 16, _ =>
      obtain ⟨y0, rfl⟩ := ws_1 hl
      refine ⟨false, T.any (i := 16) (by decide) [0, 1, 8, 19, 20, 22] (by decide), (fun z => nomatch z), fun _ => ?_⟩
      refine ⟨false, T.any (i := 16) (by decide) [2] (by decide), (fun z => nomatch z), fun _ => ?_⟩
      refine ⟨false, T.any (i := 16) (by decide) [3, 4] (by decide), (fun z => nomatch z), fun _ => ?_⟩
      refine ⟨false, T.any (i := 16) (by decide) [9] (by decide), (fun z => nomatch z), fun _ => ?_⟩
      refine ⟨false, T.any (i := 16) (by decide) [11, 12, 14, 18, 23] (by decide), (fun z => nomatch z), fun _ => ?_⟩
      refine ⟨false, T.any (i := 16) (by decide) [13, 24] (by decide), (fun z => nomatch z), fun _ => ?_⟩
      refine ⟨true, T.any (i := 16) (by decide) [16] (by decide), fun _ a ha => ?_, (fun z => nomatch z)⟩
      exact ⟨.ref a, at1 a, cm 16, dd, _, _, rfl, rfl, T.xf 16 (by decide), T.nw 16 (by decide) _ (by decide), rfl, hx, rfl, .ref a, at1 a, cm 16, dd, _, _, rfl, rfl, T.xf 16 (by decide), T.nw 16 (by decide) _ (by decide), rfl, hx, rfl, by show _ ≤ sizeLine; rw [sizeLine_eq]; simp, hq⟩
    | 17, _ =>
      obtain rfl := ws_0 hl
      refine ⟨false, T.any (i := 17) (by decide) [0, 1, 8, 19, 20, 22] (by decide), (fun z => nomatch z), fun _ => ?_⟩
      refine ⟨false, T.any (i := 17) (by decide) [2] (by decide), (fun z => nomatch z), fun _ => ?_⟩
      refine ⟨false, T.any (i := 17) (by decide) [3, 4] (by decide), (fun z => nomatch z), fun _ => ?_⟩
      refine ⟨false, T.any (i := 17) (by decide) [9] (by decide), (fun z => nomatch z), fun _ => ?_⟩
      refine ⟨false, T.any (i := 17) (by decide) [11, 12, 14, 18, 23] (by decide), (fun z => nomatch z), fun _ => ?_⟩
      refine ⟨false, T.any (i := 17) (by decide) [13, 24] (by decide), (fun z => nomatch z), fun _ => ?_⟩
      refine ⟨false, T.any (i := 17) (by decide) [16] (by decide), (fun z => nomatch z), fun _ => ?_⟩
      refine ⟨false, T.any (i := 17) (by decide) [25] (by decide), (fun z => nomatch z), fun _ => ?_⟩
      refine ⟨true, T.any (i := 17) (by decide) [5, 6, 7, 10, 15, 17, 21] (by decide), fun _ a ha => ?_, (fun z => nomatch z)⟩
      exact ⟨.ref a, at1 a, cm 17, dd, _, _, rfl, rfl, T.xf 17 (by decide), T.nw 17 (by decide) _ (by decide), rfl, hx, rfl, by show _ ≤ sizeLine; rw [sizeLine_eq]; simp, hq⟩
    | 18, _ =>
      obtain ⟨y0, rfl⟩ := ws_1 hl
      refine ⟨false, T.any (i := 18) (by decide) [0, 1, 8, 19, 20, 22] (by decide), (fun z => nomatch z), fun _ => ?_⟩
      refine ⟨false, T.any (i := 18) (by decide) [2] (by decide), (fun z => nomatch z), fun _ => ?_⟩
      refine ⟨false, T.any (i := 18) (by decide) [3, 4] (by decide), (fun z => nomatch z), fun _ => ?_⟩
      refine ⟨false, T.any (i := 18) (by decide) [9] (by decide), (fun z => nomatch z), fun _ => ?_⟩
      refine ⟨true, T.any (i := 18) (by decide) [11, 12, 14, 18, 23] (by decide), fun _ a ha => ?_, (fun z => nomatch z)⟩
      exact ⟨.ref a, at1 a, cm 18, dd, _, _, rfl, rfl, T.xf 18 (by decide), T.nw 18 (by decide) _ (by decide), rfl, hx, rfl, .ref a, at1 a, cm 18, dd, _, _, rfl, rfl, T.xf 18 (by decide), T.nw 18 (by decide) _ (by decide), rfl, hx, rfl, by show _ ≤ sizeLine; rw [sizeLine_eq]; simp, hq⟩
    | 19, _ =>
      obtain ⟨y0, rfl⟩ := ws_1 hl
      refine ⟨true, T.any (i := 19) (by decide) [0, 1, 8, 19, 20, 22] (by decide), fun _ a ha => ?_, (fun z => nomatch z)⟩
      exact ⟨.ref a, at1 a, cm 19, dd, _, _, rfl, rfl, T.xf 19 (by decide), T.nw 19 (by decide) _ (by decide), rfl, hx, rfl, .ref a, at1 a, cm 19, dd, _, _, rfl, rfl, T.xf 19 (by decide), T.nw 19 (by decide) _ (by decide), rfl, hx, rfl, by show _ ≤ sizeLine; rw [sizeLine_eq]; simp, hq⟩
    | 20, _ =>
      obtain ⟨y0, rfl⟩ := ws_1 hl
      refine ⟨true, T.any (i := 20) (by decide) [0, 1, 8, 19, 20, 22] (by decide), fun _ a ha => ?_, (fun z => nomatch z)⟩
      exact ⟨.ref a, at1 a, cm 20, dd, _, _, rfl, rfl, T.xf 20 (by decide), T.nw 20 (by decide) _ (by decide), rfl, hx, rfl, .ref a, at1 a, cm 20, dd, _, _, rfl, rfl, T.xf 20 (by decide), T.nw 20 (by decide) _ (by decide), rfl, hx, rfl, by show _ ≤ sizeLine; rw [sizeLine_eq]; simp, hq⟩
    | 21, _ =>
      obtain rfl := ws_0 hl
      refine ⟨false, T.any (i := 21) (by decide) [0, 1, 8, 19, 20, 22] (by decide), (fun z => nomatch z), fun _ => ?_⟩
      refine ⟨false, T.any (i := 21) (by decide) [2] (by decide), (fun z => nomatch z), fun _ => ?_⟩
      refine ⟨false, T.any (i := 21) (by decide) [3, 4] (by decide), (fun z => nomatch z), fun _ => ?_⟩
      refine ⟨false, T.any (i := 21) (by decide) [9] (by decide), (fun z => nomatch z), fun _ => ?_⟩
      refine ⟨false, T.any (i := 21) (by decide) [11, 12, 14, 18, 23] (by decide), (fun z => nomatch z), fun _ => ?_⟩
      refine ⟨false, T.any (i := 21) (by decide) [13, 24] (by decide), (fun z => nomatch z), fun _ => ?_⟩
      refine ⟨false, T.any (i := 21) (by decide) [16] (by decide), (fun z => nomatch z), fun _ => ?_⟩
      refine ⟨false, T.any (i := 21) (by decide) [25] (by decide), (fun z => nomatch z), fun _ => ?_⟩
      refine ⟨true, T.any (i := 21) (by decide) [5, 6, 7, 10, 15, 17, 21] (by decide), fun _ a ha => ?_, (fun z => nomatch z)⟩
      exact ⟨.ref a, at1 a, cm 21, dd, _, _, rfl, rfl, T.xf 21 (by decide), T.nw 21 (by decide) _ (by decide), rfl, hx, rfl, by show _ ≤ sizeLine; rw [sizeLine_eq]; simp, hq⟩
    | 22, _ =>
      obtain ⟨y0, rfl⟩ := ws_1 hl
      refine ⟨true, T.any (i := 22) (by decide) [0, 1, 8, 19, 20, 22] (by decide), fun _ a ha => ?_, (fun z => nomatch z)⟩
      exact ⟨.ref a, at1 a, cm 22, dd, _, _, rfl, rfl, T.xf 22 (by decide), T.nw 22 (by decide) _ (by decide), rfl, hx, rfl, .ref a, at1 a, cm 22, dd, _, _, rfl, rfl, T.xf 22 (by decide), T.nw 22 (by decide) _ (by decide), rfl, hx, rfl, by show _ ≤ sizeLine; rw [sizeLine_eq]; simp, hq⟩
    | 23, _ =>
      obtain ⟨y0, rfl⟩ := ws_1 hl
      refine ⟨false, T.any (i := 23) (by decide) [0, 1, 8, 19, 20, 22] (by decide), (fun z => nomatch z), fun _ => ?_⟩
      refine ⟨false, T.any (i := 23) (by decide) [2] (by decide), (fun z => nomatch z), fun _ => ?_⟩
      refine ⟨false, T.any (i := 23) (by decide) [3, 4] (by decide), (fun z => nomatch z), fun _ => ?_⟩
      refine ⟨false, T.any (i := 23) (by decide) [9] (by decide), (fun z => nomatch z), fun _ => ?_⟩
      refine ⟨true, T.any (i := 23) (by decide) [11, 12, 14, 18, 23] (by decide), fun _ a ha => ?_, (fun z => nomatch z)⟩
      exact ⟨.ref a, at1 a, cm 23, dd, _, _, rfl, rfl, T.xf 23 (by decide), T.nw 23 (by decide) _ (by decide), rfl, hx, rfl, .ref a, at1 a, cm 23, dd, _, _, rfl, rfl, T.xf 23 (by decide), T.nw 23 (by decide) _ (by decide), rfl, hx, rfl, by show _ ≤ sizeLine; rw [sizeLine_eq]; simp, hq⟩
    | 24, _ =>
      obtain ⟨y0, rfl⟩ := ws_1 hl
      refine ⟨false, T.any (i := 24) (by decide) [0, 1, 8, 19, 20, 22] (by decide), (fun z => nomatch z), fun _ => ?_⟩
      refine ⟨false, T.any (i := 24) (by decide) [2] (by decide), (fun z => nomatch z), fun _ => ?_⟩
      refine ⟨false, T.any (i := 24) (by decide) [3, 4] (by decide), (fun z => nomatch z), fun _ => ?_⟩
      refine ⟨false, T.any (i := 24) (by decide) [9] (by decide), (fun z => nomatch z), fun _ => ?_⟩
      refine ⟨false, T.any (i := 24) (by decide) [11, 12, 14, 18, 23] (by decide), (fun z => nomatch z), fun _ => ?_⟩
      refine ⟨true, T.any (i := 24) (by decide) [13, 24] (by decide), fun _ a ha => ?_, (fun z => nomatch z)⟩
      exact ⟨.ref a, at1 a, cm 24, dd, _, _, rfl, rfl, T.xf 24 (by decide), T.nw 24 (by decide) _ (by decide), rfl, hx, rfl, .ref a, at1 a, cm 24, dd, _, _, rfl, rfl, T.xf 24 (by decide), T.nw 24 (by decide) _ (by decide), rfl, hx, rfl, by show _ ≤ sizeLine; rw [sizeLine_eq]; simp, hq⟩
    | 25, _ =>
      obtain ⟨y0, rfl⟩ := ws_1 hl
      refine ⟨false, T.any (i := 25) (by decide) [0, 1, 8, 19, 20, 22] (by decide), (fun z => nomatch z), fun _ => ?_⟩
      refine ⟨false, T.any (i := 25) (by decide) [2] (by decide), (fun z => nomatch z), fun _ => ?_⟩
      refine ⟨false, T.any (i := 25) (by decide) [3, 4] (by decide), (fun z => nomatch z), fun _ => ?_⟩
      refine ⟨false, T.any (i := 25) (by decide) [9] (by decide), (fun z => nomatch z), fun _ => ?_⟩
      refine ⟨false, T.any (i := 25) (by decide) [11, 12, 14, 18, 23] (by decide), (fun z => nomatch z), fun _ => ?_⟩
      refine ⟨false, T.any (i := 25) (by decide) [13, 24] (by decide), (fun z => nomatch z), fun _ => ?_⟩
      refine ⟨false, T.any (i := 25) (by decide) [16] (by decide), (fun z => nomatch z), fun _ => ?_⟩
      refine ⟨true, T.any (i := 25) (by decide) [25] (by decide), fun _ a ha => ?_, (fun z => nomatch z)⟩
      exact ⟨.ref a, at1 a, cm 25, dd, _, _, rfl, rfl, T.xf 25 (by decide), T.nw 25 (by decide) _ (by decide), rfl, hx, rfl, .ref a, at1 a, cm 25, dd, _, _, rfl, rfl, T.xf 25 (by decide), T.nw 25 (by decide) _ (by decide), rfl, hx, rfl, by show _ ≤ sizeLine; rw [sizeLine_eq]; simp, hq⟩
    | 26, _ =>
      obtain rfl := ws_0 hl
      refine ⟨false, T.any (i := 26) (by decide) [0, 1, 8, 19, 20, 22] (by decide), (fun z => nomatch z), fun _ => ?_⟩
      refine ⟨false, T.any (i := 26) (by decide) [2] (by decide), (fun z => nomatch z), fun _ => ?_⟩
      refine ⟨false, T.any (i := 26) (by decide) [3, 4] (by decide), (fun z => nomatch z), fun _ => ?_⟩
      refine ⟨false, T.any (i := 26) (by decide) [9] (by decide), (fun z => nomatch z), fun _ => ?_⟩
      refine ⟨false, T.any (i := 26) (by decide) [11, 12, 14, 18, 23] (by decide), (fun z => nomatch z), fun _ => ?_⟩
      refine ⟨false, T.any (i := 26) (by decide) [13, 24] (by decide), (fun z => nomatch z), fun _ => ?_⟩
      refine ⟨false, T.any (i := 26) (by decide) [16] (by decide), (fun z => nomatch z), fun _ => ?_⟩
      refine ⟨false, T.any (i := 26) (by decide) [25] (by decide), (fun z => nomatch z), fun _ => ?_⟩
      refine ⟨false, T.any (i := 26) (by decide) [5, 6, 7, 10, 15, 17, 21] (by decide), (fun z => nomatch z), fun _ => ?_⟩
      refine ⟨true, T.any (i := 26) (by decide) [26, 27] (by decide), fun _ a ha => ?_, (fun z => nomatch z)⟩
      exact ⟨.ref a, at1 a, cm 26, dd, _, _, rfl, rfl, T.xf 26 (by decide), T.nw 26 (by decide) _ (by decide), rfl, hx, rfl, by show _ ≤ sizeLine; rw [sizeLine_eq]; simp, hq⟩
    | 27, _ =>
      obtain rfl := ws_0 hl
      refine ⟨false, T.any (i := 27) (by decide) [0, 1, 8, 19, 20, 22] (by decide), (fun z => nomatch z), fun _ => ?_⟩
      refine ⟨false, T.any (i := 27) (by decide) [2] (by decide), (fun z => nomatch z), fun _ => ?_⟩
      refine ⟨false, T.any (i := 27) (by decide) [3, 4] (by decide), (fun z => nomatch z), fun _ => ?_⟩
      refine ⟨false, T.any (i := 27) (by decide) [9] (by decide), (fun z => nomatch z), fun _ => ?_⟩
      refine ⟨false, T.any (i := 27) (by decide) [11, 12, 14, 18, 23] (by decide), (fun z => nomatch z), fun _ => ?_⟩
      refine ⟨false, T.any (i := 27) (by decide) [13, 24] (by decide), (fun z => nomatch z), fun _ => ?_⟩
      refine ⟨false, T.any (i := 27) (by decide) [16] (by decide), (fun z => nomatch z), fun _ => ?_⟩
      refine ⟨false, T.any (i := 27) (by decide) [25] (by decide), (fun z => nomatch z), fun _ => ?_⟩
      refine ⟨false, T.any (i := 27) (by decide) [5, 6, 7, 10, 15, 17, 21] (by decide), (fun z => nomatch z), fun _ => ?_⟩
      refine ⟨true, T.any (i := 27) (by decide) [26, 27] (by decide), fun _ a ha => ?_, (fun z => nomatch z)⟩
      exact ⟨.ref a, at1 a, cm 27, dd, _, _, rfl, rfl, T.xf 27 (by decide), T.nw 27 (by decide) _ (by decide), rfl, hx, rfl, by show _ ≤ sizeLine; rw [sizeLine_eq]; simp, hq⟩
    | n + 28, hi => exact absurd hi (by omega)
/-! ### the 28 refusals by one Bool -/
def refsB (K : PySem.W.Frag) : Bool := frL (rNms.map (He.ga K)) fun cs => (List.range 28).all fun i => frN (cs.getD i 0) fun C => xfB K C && ((("word" : Str) :: rFl i).all fun f => He.eqO (PySem.W.findIn K (.ref C) f) (some none)) &&
  (List.range 28).all fun j => decide (PySem.W.exmOne K (.ref C) (.ref (cs.getD j 0)) = some (decide (i = j)))
theorem refsB_ok {K : PySem.W.Frag} {h : Heap} {mg : Str → Option Value} {fa : List He.Fa} {fn : List He.DefD} (X : K.In h) (G : h.Ns mainGlobals mg) (c : He.SaysD (rNms.map He.Fa.glo ++ fa) fn K) (hb : refsB K = true) : RefsT K mg (fun i => (rNms.map (He.ga K)).getD i 0) := by
  unfold refsB at hb
  rw [frL_eq] at hb
  have key : ∀ i, i < 28 → xfB K ((rNms.map (He.ga K)).getD i 0) = true ∧ ((("word" : Str) :: rFl i).all fun f => He.eqO (PySem.W.findIn K (.ref ((rNms.map (He.ga K)).getD i 0)) f) (some none)) = true ∧ ((List.range 28).all fun j => decide (PySem.W.exmOne K (.ref ((rNms.map (He.ga K)).getD i 0)) (.ref ((rNms.map (He.ga K)).getD j 0)) = some (decide (i = j)))) = true := fun i hi => by
    have z := List.all_eq_true.mp hb i (List.mem_range.mpr hi)
    rw [frN_eq] at z
    obtain ⟨z1, z2⟩ := Bool.and_eq_true_iff.mp z
    obtain ⟨z3, z4⟩ := Bool.and_eq_true_iff.mp z1
    exact ⟨z3, z4, z2⟩
  refine ⟨fun i hi => ?_, fun i hi => xfB_ok (key i hi).1, fun i hi f hf => He.eqO_ok (List.all_eq_true.mp (key i hi).2.1 f hf), fun i j hi hj => of_decide_eq_true (List.all_eq_true.mp (key i hi).2.2 j (List.mem_range.mpr hj))⟩
  have hl : i < rNms.length := hi
  have e1 : rNm i = rNms[i] := by
    unfold rNm
    rw [List.getD_eq_getElem?_getD, List.getElem?_eq_getElem hl]
    rfl
  have e2 : (rNms.map (He.ga K)).getD i 0 = He.ga K (rNm i) := by
    rw [e1, List.getD_eq_getElem?_getD, List.getElem?_map, List.getElem?_eq_getElem hl]
    rfl
  rw [e2]
  refine He.glo_ok X G (c.facts (f := .glo (rNm i)) (List.mem_append_left _ (List.mem_map.mpr ⟨rNm i, ?_, rfl⟩)))
  rw [e1]
  exact List.getElem_mem hl
/-! ### _law_tried(x), x one of some lambdas -/
theorem visTriedV : Vis (defScope sTried) "_law_act" := .inl rfl
section
open LamX NdefX
theorem cells_unX {cl : List (Str × Addr)} {fr : List Str} {ws : List (Option V)} {fs ex : List Addr} {H HZ : Hp} {h hZ : Heap} (C : CellsAt cl fr ws h H) (nx : ∀ y c, cl.lookup y = some c → c ∉ ex) (un : Un fs ex H HZ h hZ) : CellsAt cl fr ws hZ HZ := by
  have kp : ∀ y c, cl.lookup y = some c → ∀ v, h.IsCell c v → hZ.IsCell c v := fun y c e v ⟨o, ho, hd⟩ => by
    obtain ⟨sl, q⟩ := un.any ho (C.all y c e).1 (nx y c e)
    exact ⟨_, q, hd⟩
  refine ⟨C.len, fun y c e => ?_, C.inj, fun i y e => ?_⟩
  · obtain ⟨n, v, z⟩ := C.all y c e
    refine ⟨?_, v, kp y c e v z⟩
    obtain ⟨o, ho, _⟩ := z
    exact un.free c o ho n (nx y c e)
  · obtain ⟨c, hc, hv⟩ := C.has i y e
    refine ⟨c, hc, fun v ev => ?_⟩
    obtain ⟨u, r, z⟩ := hv v ev
    exact ⟨u, r, kp y c hc _ z⟩
/-- the cells of a def's lambda, in a comprehension of the def -/
theorem cells_blk {X : Cx} {pins0 pins : List (Addr × Obj)} {σ0 σ : L2.St} {H0 H : Hp} {s0 s : Shared} {scope lsc : Scope} {ce : Env} {fp : List Addr} {fr : List Str} {js : List Nat} (I0 : Inv X pins0 σ0 H0 s0) (hfp : ∀ b ∈ fp, FpOk X pins0 H0 b)
    (hfree : ∀ y ∈ lsc.names, y.2 = .free → X.env.scope.names.lookup y.1 = some .cell ∨ X.env.scope.names.lookup y.1 = some .free) (hfr : ∀ y ∈ fr, (y, NameKind.free) ∈ lsc.names) (hjs : js.map (fun j => X.N[j]?) = fr.map some)
    (I : Inv (X.blk s0 H0 scope ce fp) pins σ H s) : CellsAt (cloFrom X.env.cells lsc.names []) fr (js.map (slotAt σ0)) s.heap H := by
  have cp := Caps.made (fr := fr) (js := js) I0.ok hfree hfr hjs
  refine cells_unX (cells_of I0 cp) (fun y c e hc => ?_) I.base
  obtain ⟨_, _, _, _, f4, _⟩ := hfp c hc
  exact f4 y c (cp.sub y c e) rfl
structure LamD where
  lf : Addr → Value → LF
  ps : List Str
  fr : List Str
  ds : List Int
  tb : XK → TE
/-- what is known of one of them; its cells hold ws -/
structure LamK (Y : Cx) (k : Nat) (q : Str) (D : LamD) (ws : List (Option V)) : Prop where
  sc : ∀ c' dV, NScope (D.ps ++ D.fr) D.ps D.fr (D.lf c' dV).scope
  c0 : ∀ c' dV, (D.lf c' dV).c = c'
  d0 : ∀ c' dV, (D.lf c' dV).dV = dV
  q0 : ∀ c' dV, (D.lf c' dV).qual = q
  bd : Binds0 D.lf D.ps
  ln : D.ds.length = D.ps.length
  ce : ∀ c' dV (pins : List (Addr × Obj)) (σ : L2.St) (H : Hp) (s : Shared), Inv Y pins σ H s → CellsAt (D.lf c' dV).cl D.fr ws s.heap H
  bo : ∀ c' dV (f : Addr) (A : Around) (outer : List Env) (s : Shared) (H : Hp) (E : XK), Room k (A.deeper (envF (D.lf c' dV).nf f s.heap.objs.size)) → PE (ncx (L2.CX Y.prog Y.w) Y.prog Y.w Y.K Y.mg Y.base (D.ps ++ D.fr) (D.lf c' dV).nf f A outer s H E) (D.lf c' dV).body (D.tb E)
def tTriedV (cm : Nat → Addr) (q : Str) (n i : Nat) (D : Nat → LamD) (ws : Nat → List (Option V)) : TE := fun σ H Q => ∃ (j : Nat) (f c' : Addr) (dV : Value), j < n ∧ σ[i]? = some (some (.ref f)) ∧ H c' = some (CodeO c' q) ∧
  TTried cm (fun E H' Q' => H' f = some (LamO f ((D j).lf c' dV)) ∧ Dflts H' dV (D j).ds ∧ (D j).tb E (startF ((D j).ps ++ (D j).fr) ((D j).ds.map V.int) (ws j)) H' Q') H Q
theorem pe_triedV {Y : Cx} {cm : Nat → Addr} {gT : Addr} {fdT : FuncData} {k i n : Nat} {x q : Str} {D : Nat → LamD} {ws : Nat → List (Option V)} {p p' pos : Pos}
    (RT : RefsT Y.K Y.mg cm) (FT : Fun Y.K "_law_tried" "_law_tried" sTried gT fdT) (mT : Y.mg "_law_tried" = some (.ref gT)) (bT : L2.Binds Y.K fdT ["_law_act"] []) (hr : Room (k + 2) Y.A) (hgT : Gl Y "_law_tried") (hN : Y.N[i]? = some x) (hv : Vis Y.env.scope x)
    (hk : ∀ j, j < n → LamK Y k q (D j) (ws j)) (hd : (x == ("__debug__" : Str)) = false := by decide) (hcd : (x == ("__classdict__" : Str)) = false := by decide) :
    PE Y (.Call (.Name "_law_tried" p) [.Name x p'] [] pos) (tTriedV cm q n i D ws) := by
  refine ⟨fun pins s σ H Q I h => ?_⟩
  obtain ⟨j, f, c', dV, hj, hs, hc, ht⟩ := h
  refine wpAny_Call_Name_kw (ld_glob I hgT mT ?_)
  refine PySem.W.callWith_K (h₀ := Y.base) I.ok.mod.kin FT.kp (thn ((pa_cons (pe_var (pos := p') (i := i) hN hv hd hcd) pa_nil).run pos pins s σ H (fun vs H1 => vs = [.ref f] ∧ H1 = H) I ⟨.ref f, hs, rfl, rfl⟩) fun us s1 z => ?_) (by rfl) (by rfl)
  obtain ⟨vs, H1, I1, r1, rfl, rfl⟩ := z
  refine ⟨I1.kIn, ?_⟩
  obtain ⟨oc, od, kV, doc, pmT, an, cdv, ct, osl, rfl, lk, hcg⟩ := FT.ex
  have L := hk j hj
  have C := L.ce c' dV pins σ H1 s1 I1
  have rc : codeAny (model Y.prog Y.w) Y.A (.call (.ref gT) ⟨us, []⟩) (CR C8.CX0 Y.stack Y.prog Y.w H1 s1 Q C8.E0) s1 := by
    have bb : BindsTo s1 (PySem.W.fnOf "_law_tried" "_law_tried" (defArgs sTried) (defBody sTried) (defScope sTried) .none kV doc pmT an cdv ct) ⟨us, []⟩ ((["_law_act"] : List Str).zip us) := by
      have hl : (us ++ []).length = (["_law_act"] : List Str).length := by
        rw [List.append_nil, ← r1.length]
        rfl
      have z := bT s1 us I1.kIn hl
      rw [List.append_nil] at z
      exact z
    refine run_ofS (N := nTried) (ps := ["_law_act"]) (us := us) (vs := [.ref f]) (k := k + 1) lk hcg scTried hr I1.env0 bb r1 rfl fun hr' => ?_
    obtain ⟨t', ht', hq'⟩ := tried_gives (X := Y) (g := gT) (cdg := cdv) (q := q) RT f c' s1 H1 Q _ (fun W pn xe E p1 p2 tk hW => by
      have z := pe_actV (i := 0) (p1 := p1) (p2 := p2) (A' := Y.A) (outer' := Y.stack) (s0 := s1) (H0 := H1) (k := k) (f := f) (E := E) (tb := (D j).tb E) (L.sc c' dV) C (L.c0 c' dV) (L.d0 c' dV) L.bd L.ln tk hW hr' (fun A outer s H hr2 => L.bo c' dV f A outer s H E hr2) rfl visTriedV
      rw [L.q0 c' dV] at z
      exact z) hc ht
    exact ⟨t', ht'.nox, hq'⟩
  refine wpAny_call (codeAny_mono rc fun r s' hq => ?_)
  cases r with
  | error e => exact (show False from hq).elim
  | ok fl =>
    cases fl with
    | ret u => exact I1.after hq
    | next => exact False.elim hq
    | brk => exact False.elim hq
    | cont => exact False.elim hq
end
/-! ### figures on the heap -/
def All2 {α : Type} (R : V → α → Prop) : List V → List α → Prop
  | [], [] => True
  | v :: vs, a :: as => R v a ∧ All2 R vs as
  | _, _ => False
theorem All2.len {α : Type} {R : V → α → Prop} : ∀ {xs : List V} {as : List α}, All2 R xs as → xs.length = as.length
  | [], [], _ => rfl
  | _ :: _, _ :: _, h => congrArg Nat.succ (All2.len h.2)
  | [], _ :: _, h => h.elim
  | _ :: _, [], h => h.elim
theorem All2.get {α : Type} {R : V → α → Prop} : ∀ {xs : List V} {as : List α} {i : Nat} {x : V}, All2 R xs as → xs[i]? = some x → ∃ a, as[i]? = some a ∧ R x a
  | [], [], i, x, _, e => by simp at e
  | v :: vs, a :: as, 0, x, h, e => ⟨a, rfl, by rw [← Option.some.inj e]; exact h.1⟩
  | v :: vs, a :: as, i + 1, x, h, e => All2.get (xs := vs) (as := as) (i := i) h.2 e
  | [], _ :: _, _, _, h, _ => h.elim
  | _ :: _, [], _, _, h, _ => h.elim
theorem All2.at {α : Type} {R : V → α → Prop} : ∀ {xs : List V} {as : List α} {i : Nat} {a : α}, All2 R xs as → as[i]? = some a → ∃ x, xs[i]? = some x ∧ R x a
  | [], [], i, x, _, e => by simp at e
  | v :: vs, a :: as, 0, x, h, e => ⟨v, rfl, by rw [← Option.some.inj e]; exact h.1⟩
  | v :: vs, a :: as, i + 1, x, h, e => All2.at (xs := vs) (as := as) (i := i) h.2 e
  | [], _ :: _, _, _, h, _ => h.elim
  | _ :: _, [], _, _, h, _ => h.elim
theorem All2.mono {α : Type} {R S : V → α → Prop} (f : ∀ x a, R x a → S x a) : ∀ {xs : List V} {as : List α}, All2 R xs as → All2 S xs as
  | [], [], _ => True.intro
  | _ :: _, _ :: _, h => ⟨f _ _ h.1, All2.mono f h.2⟩
  | [], _ :: _, h => h.elim
  | _ :: _, [], h => h.elim
theorem All2.snoc {α : Type} {R : V → α → Prop} {x : V} {a : α} (r : R x a) : ∀ {xs : List V} {as : List α}, All2 R xs as → All2 R (xs ++ [x]) (as ++ [a])
  | [], [], _ => ⟨r, True.intro⟩
  | _ :: _, _ :: _, h => ⟨h.1, All2.snoc r h.2⟩
  | [], _ :: _, h => h.elim
  | _ :: _, [], h => h.elim
abbrev Tri := Int × Int × Int
def triV (t : Tri) : List V := [.int t.1, .int t.2.1, .int t.2.2]
def TriAt (K : PySem.W.Frag) (H : Hp) (v : V) (t : Tri) : Prop := ∃ a, v = .ref a ∧ SqT K H a (triV t)
def FigT (K : PySem.W.Frag) (H : Hp) (v : V) (f : List Tri) : Prop := ∃ a xs, v = .ref a ∧ SqT K H a xs ∧ All2 (TriAt K H) xs f
/-- tuples stay -/
def TS (K : PySem.W.Frag) (H H' : Hp) : Prop := ∀ a xs, SqT K H a xs → SqT K H' a xs
theorem TS.refl {K : PySem.W.Frag} {H : Hp} : TS K H H := fun _ _ h => h
theorem TS.trans {K : PySem.W.Frag} {H H1 H2 : Hp} (x : TS K H H1) (y : TS K H1 H2) : TS K H H2 := fun a xs h => y a xs (x a xs h)
theorem TS.of {K : PySem.W.Frag} {H H' : Hp} (e : Same H H') : TS K H H' := fun a xs h => Same.tup e h
theorem TS.but {K : PySem.W.Frag} {H H' : Hp} {b : Addr} {ys : List V} (e : Off b H H') (hb : H b = some (.lst ys)) : TS K H H' := fun a xs h => by
  rcases h with (h | ⟨o, h⟩) | h
  · exact .inl (.inl (e _ _ (fun z => by rw [z, hb] at h; cases h) h))
  · exact .inl (.inr ⟨o, e _ _ (fun z => by rw [z, hb] at h; cases h) h⟩)
  · exact .inr h
theorem TS.bag {K : PySem.W.Frag} {H H' : Hp} {b c : Addr} (e : Off b H H') (h : Bag H b c) : TS K H H' := by
  obtain ⟨cells, a, r, s, h1, _⟩ := h.ex
  exact TS.but e h1
theorem TS.upd {K : PySem.W.Frag} {H : Hp} {D : Addr} {ys : List V} {o : HO} (hD : H D = some (.lst ys)) : TS K H (upd H D o) := TS.but Off.upd hD
theorem TriAt.ts {K : PySem.W.Frag} {H H' : Hp} (e : TS K H H') {v : V} {t : Tri} (h : TriAt K H v t) : TriAt K H' v t := by
  obtain ⟨a, h1, h2⟩ := h
  exact ⟨a, h1, e _ _ h2⟩
theorem FigT.ts {K : PySem.W.Frag} {H H' : Hp} (e : TS K H H') {v : V} {f : List Tri} (h : FigT K H v f) : FigT K H' v f := by
  obtain ⟨a, xs, h1, h2, h3⟩ := h
  exact ⟨a, xs, h1, e _ _ h2, h3.mono fun _ _ => TriAt.ts e⟩
theorem Off.new {b D : Addr} {H H' : Hp} {o : HO} (e : Off b H H') (n : H D = none) : Off b H (L2.upd H' D o) := fun a x h q => by
  rw [upd_ne (ne_of_none q n)]
  exact e a x h q
/-- what a book asks of a figure -/
structure GoodT (cs : List Int) (t : Tri) : Prop where
  p0 : 0 ≤ t.1
  p1 : t.1 < cs.length
  n0 : 0 ≤ t.2.1
  n1 : t.2.1 < cs.getD t.1.toNat 0
  d0 : 1 ≤ t.2.2
  d1 : t.2.2 ≤ 3
structure GoodF (cs : List Int) (f : List Tri) : Prop where
  ne : f ≠ []
  all : ∀ t ∈ f, GoodT cs t
  up : (f.map (·.1)).Pairwise (· < ·)
theorem rise_len : ∀ {l : List Int} {lo hi : Int}, l.Pairwise (· < ·) → (∀ x ∈ l, lo ≤ x ∧ x < hi) → lo ≤ hi → (l.length : Int) ≤ hi - lo
  | [], lo, hi, _, _, h => by
    show (0 : Int) ≤ _
    omega
  | x :: l, lo, hi, p, a, h => by
    have hx := a x List.mem_cons_self
    have p2 := List.pairwise_cons.mp p
    have := rise_len (l := l) (lo := x + 1) (hi := hi) p2.2 (fun y hy => ⟨by have := p2.1 y hy; omega, (a y (List.mem_cons_of_mem _ hy)).2⟩) (by omega)
    rw [List.length_cons]
    omega
theorem GoodF.len {cs : List Int} {f : List Tri} (h : GoodF cs f) : f.length ≤ cs.length := by
  have := rise_len (lo := 0) (hi := cs.length) h.up (fun x hx => by
    obtain ⟨t, ht, rfl⟩ := List.mem_map.mp hx
    exact ⟨(h.all t ht).p0, (h.all t ht).p1⟩) (by omega)
  rw [List.length_map] at this
  omega
theorem tri_data {K : PySem.W.Frag} {H : Hp} : ∀ {xs : List V} {fg : List Tri}, All2 (TriAt K H) xs fg → ∃ ds : List PyData, DpAll K H xs ds ∧ SeqAt.shaped (.list ds) = true ∧ PyData.eqv (.list ds) (.list []) = decide (fg = []) := by
  intro xs fg h
  refine ⟨fg.map fun t => .tuple [.int t.1, .int t.2.1, .int t.2.2], ?_, ?_, ?_⟩
  · induction fg generalizing xs with
    | nil =>
      cases xs with
      | nil => exact .nil
      | cons _ _ => exact h.elim
    | cons t r ih =>
      cases xs with
      | nil => exact h.elim
      | cons x l =>
        obtain ⟨a, e, ha⟩ := h.1
        subst e
        exact .cons (.tup ha (.cons (.int _) (.cons (.int _) (.cons (.int _) .nil)))) (ih h.2)
  · have h1 : ∀ l : List Tri, PyData.canLayAll0 (l.map fun t => .tuple [.int t.1, .int t.2.1, .int t.2.2]) = true := fun l => by
      induction l with
      | nil => rfl
      | cons t r ih => simp [PyData.canLayAll0, PyData.canLay0, ih]
    have h2 : ∀ l : List Tri, PyData.depthAll (l.map fun t => .tuple [.int t.1, .int t.2.1, .int t.2.2]) ≤ 1 := fun l => by
      induction l with
      | nil => simp [PyData.depthAll]
      | cons t r ih =>
        simp only [List.map_cons, PyData.depthAll, PyData.depth]
        omega
    have h3 := h1 fg
    have h4 := h2 fg
    have h5 : PyData.depth (.list (fg.map fun t => .tuple [.int t.1, .int t.2.1, .int t.2.2])) ≤ 64 := by
      simp only [PyData.depth]
      omega
    show (PyData.canLay0 _ && decide (PyData.depth _ ≤ 64)) = true
    rw [Bool.and_eq_true]
    exact ⟨by simp only [PyData.canLay0]; exact h3, decide_eq_true h5⟩
  · cases fg with
    | nil => simp [PyData.eqv, PyData.eqvAll]
    | cons _ _ => simp [PyData.eqv, PyData.eqvAll]
/-! ### _law_hues -/
abbrev sHues : Stmt := topS 63
abbrev nHues : List Str := ["_law_bag_here", "_law_most", "_law_pad"]
theorem scHues : FnScope nHues ["_law_bag_here", "_law_most"] (defScope sHues) := ⟨rfl, rfl, rfl, by decide +kernel, rfl, by decide +kernel, by decide +kernel⟩
def spHues : Sp := fun vs H Q _ => ∃ (b c : Addr) (most : Nat), vs = [.ref b, .int (most : Nat)] ∧ Bag H b c ∧ 0 < most ∧ most ≤ 100 ∧
  ∀ (H' : Hp) (p : Addr) (cs : List Int), Off b H H' → Bag H' b c → H p = none → p ≠ b → H' p = some (.lst (cs.map V.int)) → 1 ≤ cs.length → cs.length ≤ most → (∀ x ∈ cs, (1 : Int) ≤ x ∧ x ≤ 4) → Q (.ref p) H'
section
variable {P : Program} {w : World} {K : PySem.W.Frag} {mg : Str → Option Value} {base : Heap}
theorem ok_hues {f fP fO : Addr} {fd fdP fdO : FuncData} {k : Nat} (F : Fun K "_law_hues" "_law_hues" sHues f fd) (mr : mg "range" = none)
    (FP : Fun K "_law_pull" "_law_pull" sPull fP fdP) (bP : Binds K fdP ["_law_bag_here", "_law_size"] []) (gP : mg "_law_pull" = some (.ref fP)) (GP : FnOk P w K mg base CX0 k fP fdP ["_law_bag_here", "_law_size"] spPull)
    (FO : Fun K "_law_of" "_law_of" sOf fO fdO) (bO : Binds K fdO ["_law_bag_here", "_law_things"] []) (gO : mg "_law_of" = some (.ref fO)) (GO : FnOk P w K mg base CX0 k fO fdO ["_law_bag_here", "_law_things"] spOf) :
    FnOk P w K mg base CX0 (k + 1) f fd ["_law_bag_here", "_law_most"] spHues := by
  refine F.ok scHues (fun vs H Q E h => ?_) (fun cdv A outer s H vs Q E hr h => ?_)
  · obtain ⟨b, c, most, rfl, _⟩ := h
    rfl
  · obtain ⟨b, c, most, rfl, hB, h0, h1, q⟩ := h
    refine ⟨_, pss_one (ps_ret (pe_lc (own := [("_law_pad", 2)]) (g := gName 2) (tt := tYes) rfl scHues.nd (pi_range1 (by rfl) mr (pa_cons (pe_op op_add pe_int (pe_call GP hr (by rfl) gP FP.kp bP .nil pass0 (pa_cons (pv 0) (pa_cons (pv 1) pa_nil)))) pa_nil))
      (blkOk_by (own := [("_law_pad", 2)]) (N := nHues) (sc := defScope sHues) (by decide +kernel)) (fun _ _ _ _ _ => pg_name (i := 2) scHues.nd rfl (Or.inl rfl)) (fun _ _ _ _ _ => pts_nil)
      (fun _ _ _ _ _ => pe_call GO hr (by rfl) gO FO.kp bO .nil pass0 (pa_cons (pv 0) (pa_cons (pe_lst (pa_cons pe_int (pa_cons pe_int (pa_cons pe_int (pa_cons pe_int (pa_cons pe_int pa_nil)))))) pa_nil))))), ?_⟩
    refine ⟨.ref b, rfl, .int (most : Nat), rfl, b, c, most, rfl, hB, by omega, ?_, fun H2 r off2 hB2 r0 r1 => ?_⟩
    · rw [Int.natAbs_natCast]
      exact Nat.lt_of_le_of_lt h1 (by decide)
    obtain ⟨n, rfl⟩ := Int.eq_ofNat_of_zero_le r0
    refine ⟨1, (n : Int), rfl, rfl, 1 + (n : Int), rfl, by omega, by omega, fun D nD => ?_⟩
    have hne := hB2.ne nD
    have hDH : H D = none := by
      cases e : H D with
      | none => rfl
      | some o =>
        rw [off2 D o hne.1 e] at nD
        cases nD
    refine lc_range (lo := 0) (n := (1 + (n : Int)).toNat) (fun i H' => Bag H' b c ∧ Off b H H' ∧ ∃ cs : List Int, cs.length = i ∧ H' D = some (.lst (cs.map V.int)) ∧ ∀ x ∈ cs, (1 : Int) ≤ x ∧ x ≤ 4) ⟨hB2.same (same_upd nD), off2.trans (Off.same (same_upd nD)), [], rfl, upd_same, fun x hx => by cases hx⟩ (fun i H' hi hP => ?_) (fun H' hP => ?_)
    · obtain ⟨hB4, off4, cs, hx, hD, hc⟩ := hP
      refine ⟨rfl, yesT ⟨.ref b, rfl, (show (5 : Nat) ≤ sizeLine by decide), fun t nt => ?_⟩⟩
      have u1 := same_upd (o := .lst [V.int 2, V.int 3, V.int 2, V.int 4, V.int 1]) nt
      refine ⟨b, c, t, _, rfl, hB4.same u1, upd_same, (hB4.ne nt).1, (show (0 : Nat) < 5 by decide), (show (5 : Nat) ≤ 1000 by decide), fun H5 v off5 hB5 hv => ?_⟩
      obtain ⟨x, rfl, hx1⟩ : ∃ x : Int, v = .int x ∧ 1 ≤ x ∧ x ≤ 4 := by
        simp only [List.mem_cons, List.not_mem_nil, or_false] at hv
        rcases hv with rfl | rfl | rfl | rfl | rfl
        · exact ⟨2, rfl, by decide⟩
        · exact ⟨3, rfl, by decide⟩
        · exact ⟨2, rfl, by decide⟩
        · exact ⟨4, rfl, by decide⟩
        · exact ⟨1, rfl, by decide⟩
      refine ⟨_, off5 _ _ hne.1 (u1 _ _ hD), ?_, hB5.upd hne, ((off4.trans (Off.same u1)).trans off5).new hDH, cs ++ [x], ?_, ?_, ?_⟩
      · rw [List.length_map]
        exact small1000 (by omega)
      · rw [List.length_append, hx]
        rfl
      · rw [upd_same, List.map_append]
        rfl
      · intro y hy
        rcases List.mem_append.mp hy with hy | hy
        · exact hc y hy
        · rw [List.mem_singleton.mp hy]
          exact hx1
    · obtain ⟨hB4, off4, cs, hx, hD, hc⟩ := hP
      exact q H' D cs off4 hB4 hDH hne.1 hD (by omega) (by omega) hc
end
/-! ### _law_shape -/
abbrev sShape : Stmt := topS 64
abbrev nShape : List Str := ["_law_bag_here", "_law_colours", "_law_found", "_law_pad"]
theorem scShape : FnScope nShape ["_law_bag_here", "_law_colours"] (defScope sShape) := ⟨rfl, rfl, rfl, by decide +kernel, rfl, by decide +kernel, by decide +kernel⟩
def spShape (K : PySem.W.Frag) : Sp := fun vs H Q _ => ∃ (b c p : Addr) (cs : List Int), vs = [.ref b, .ref p] ∧ Bag H b c ∧ H p = some (.lst (cs.map V.int)) ∧ p ≠ b ∧ 1 ≤ cs.length ∧ cs.length ≤ 6 ∧ (∀ x ∈ cs, (1 : Int) ≤ x ∧ x ≤ 4) ∧
  ∀ H' v f, Off b H H' → Bag H' b c → FigT K H' v f → GoodF cs f → Q v H'
theorem cs_at {cs : List Int} {i : Nat} (h : i < cs.length) : atI (cs.map V.int) (i : Int) = some (.int (cs.getD i 0)) := by
  refine atI_nat ?_
  rw [List.getElem?_map, List.getElem?_eq_getElem h, List.getD_eq_getElem?_getD, List.getElem?_eq_getElem h]
  rfl
theorem cs_in {cs : List Int} {i : Nat} (h : i < cs.length) (a : ∀ x ∈ cs, (1 : Int) ≤ x ∧ x ≤ 4) : 1 ≤ cs.getD i 0 ∧ cs.getD i 0 ≤ 4 := by
  rw [List.getD_eq_getElem?_getD, List.getElem?_eq_getElem h]
  exact a _ (List.getElem_mem h)
section
variable {P : Program} {w : World} {K : PySem.W.Frag} {mg : Str → Option Value} {base : Heap}
theorem ok_shape {f fP fO : Addr} {fd fdP fdO : FuncData} {k : Nat} (F : Fun K "_law_shape" "_law_shape" sShape f fd) (mr : mg "range" = none) (ml : mg "len" = none) (mt : mg "tuple" = none)
    (FP : Fun K "_law_pull" "_law_pull" sPull fP fdP) (bP : Binds K fdP ["_law_bag_here", "_law_size"] []) (gP : mg "_law_pull" = some (.ref fP)) (GP : FnOk P w K mg base CX0 k fP fdP ["_law_bag_here", "_law_size"] spPull)
    (FO : Fun K "_law_of" "_law_of" sOf fO fdO) (bO : Binds K fdO ["_law_bag_here", "_law_things"] []) (gO : mg "_law_of" = some (.ref fO)) (GO : FnOk P w K mg base CX0 k fO fdO ["_law_bag_here", "_law_things"] spOf) :
    FnOk P w K mg base CX0 (k + 1) f fd ["_law_bag_here", "_law_colours"] (spShape K) := by
  refine F.ok scShape (fun vs H Q E h => ?_) (fun cdv A outer s H vs Q E hr h => ?_)
  · obtain ⟨b, c, p, cs, rfl, _⟩ := h
    rfl
  · obtain ⟨b, c, p, cs, rfl, hB, hp, hpb, h1, h6, hcs, q⟩ := h
    refine ⟨_, pss_cons (ps_set (i := 2) scShape.nd rfl (.inl rfl) (pe_lst pa_nil))
      (pss_cons (ps_for PassesOwn.never rfl (pi_range1 (by rfl) mr (pa_cons (pe_callB call_lenQ (by rfl) ml PySem.boot_len (pa_cons (pv 1) pa_nil)) pa_nil)) (pg_name (i := 3) scShape.nd rfl (.inl rfl))
        (pss_one (ps_if (pt_cmpR op_lt (pe_call GP hr (by rfl) gP FP.kp bP .nil pass0 (pa_cons (pv 0) (pa_cons pe_int pa_nil))) pe_int (nomark _))
          (pss_one (ps_expr (pe_bm PySem.F.plainAttrs_list PySem.F.slot_list_append PySem.F.type_list_append mt_append (pv 2) (pa_cons (pe_tup (pa_cons (pv 3)
            (pa_cons (pe_call GP hr (by rfl) gP FP.kp bP .nil pass0 (pa_cons (pv 0) (pa_cons (pe_ix ix_list (pv 1) (pv 3) (fun _ _ => rfl)) pa_nil)))
            (pa_cons (pe_call GO hr (by rfl) gO FO.kp bO .nil pass0 (pa_cons (pv 0) (pa_cons (pe_lst (pa_cons pe_int (pa_cons pe_int (pa_cons pe_int (pa_cons pe_int (pa_cons pe_int pa_nil)))))) pa_nil))) pa_nil)))) pa_nil)))) pss_nil)))
      (C8.pss_cut (ps_if (pt_cmpR (op_eqD hr.units) (pv 2) (pe_lst pa_nil) (nomark _))
          (pss_cons (ps_set (i := 3) scShape.nd rfl (.inl rfl) (pe_call GP hr (by rfl) gP FP.kp bP .nil pass0 (pa_cons (pv 0) (pa_cons (pe_callB call_lenQ (by rfl) ml PySem.boot_len (pa_cons (pv 1) pa_nil)) pa_nil))))
          (pss_one (ps_expr (pe_bm PySem.F.plainAttrs_list PySem.F.slot_list_append PySem.F.type_list_append mt_append (pv 2) (pa_cons (pe_tup (pa_cons (pv 3)
            (pa_cons (pe_call GP hr (by rfl) gP FP.kp bP .nil pass0 (pa_cons (pv 0) (pa_cons (pe_ix ix_list (pv 1) (pv 3) (fun _ _ => rfl)) pa_nil)))
            (pa_cons (pe_op op_add pe_int (pe_call GP hr (by rfl) gP FP.kp bP .nil pass0 (pa_cons (pv 0) (pa_cons pe_int pa_nil)))) pa_nil)))) pa_nil))))) pss_nil)
      (pss_one (ps_ret (pe_callTy call_tupS (by rfl) mt (by decide +kernel) (pa_cons (pv 2) pa_nil)))))), ?_⟩
    refine ⟨Nat.zero_le _, fun D nD => ?_⟩
    have hne := hB.ne nD
    refine ⟨.ref p, rfl, p, _, rfl, .inl (SqL.of (same_upd nD _ _ hp)), ((cs.map V.int).length : Nat), rfl, by rw [List.length_map]; omega, by rw [List.length_map]; omega, ?_⟩
    rw [show (((cs.map V.int).length : Nat) : Int).toNat = cs.length by rw [List.length_map, Int.toNat_natCast]]
    refine for_range (lo := 0) (n := cs.length) (fun i σ H' => ∃ (y3 : Option V) (xs : List V) (fg : List Tri), σ = [some (.ref b), some (.ref p), some (.ref D), y3] ∧ Bag H' b c ∧ Off b H H' ∧ H' D = some (.lst xs) ∧ All2 (TriAt K H') xs fg ∧ (∀ t ∈ fg, GoodT cs t ∧ t.1 < (i : Int)) ∧ (fg.map (·.1)).Pairwise (· < ·) ∧ fg.length ≤ i)
      ⟨none, [], [], rfl, hB.same (same_upd nD), Off.same (same_upd nD), upd_same, True.intro, fun t ht => (by cases ht), List.Pairwise.nil, Nat.le_refl _⟩ ?_ ?_
    · rintro i σ H' hi ⟨y3, xs, fg, rfl, hB4, off4, hD, hA, hG, hU, hl⟩
      refine ⟨.ref b, rfl, b, c, 5, rfl, hB4, by decide, by decide, fun H5 r off5 hB5 _ _ => ?_⟩
      have ts5 : TS K H' H5 := TS.bag off5 hB4
      have hD5 := off5 _ _ hne.1 hD
      refine ⟨r, 2, rfl, rfl, _, rfl, ite2 (fun e => ?_) (fun e => ?_)⟩
      · have hp5 := (off4.trans off5) _ _ hpb hp
        have hci := cs_in hi hcs
        refine ⟨.ref D, rfl, .inl ⟨rfl, _, SqL.of hD5⟩, .int (0 + (i : Int)), rfl, ?_⟩
        refine ⟨.ref b, rfl, .ref p, rfl, .int (0 + (i : Int)), rfl, p, _, 0 + (i : Int), .int (cs.getD i 0), rfl, rfl, SqL.of hp5, by rw [Int.zero_add]; exact cs_at hi, ?_⟩
        refine ⟨b, c, cs.getD i 0, rfl, hB5, by omega, ?_, fun H6 n off6 hB6 n0 n1 => ?_⟩
        · have : (cs.getD i 0).natAbs ≤ 4 := by omega
          exact Nat.lt_of_le_of_lt this (by decide)
        refine ⟨.ref b, rfl, (show (5 : Nat) ≤ sizeLine by decide), fun t nt => ?_⟩
        have u1 := same_upd (o := .lst [V.int 1, V.int 1, V.int 2, V.int 1, V.int 3]) nt
        refine ⟨b, c, t, _, rfl, hB6.same u1, upd_same, (hB6.ne nt).1, (show (0 : Nat) < 5 by decide), (show (5 : Nat) ≤ 1000 by decide), fun H7 v off7 hB7 hv => ?_⟩
        obtain ⟨d, rfl, hd⟩ : ∃ d : Int, v = .int d ∧ 1 ≤ d ∧ d ≤ 3 := by
          simp only [List.mem_cons, List.not_mem_nil, or_false] at hv
          rcases hv with rfl | rfl | rfl | rfl | rfl
          · exact ⟨1, rfl, by decide⟩
          · exact ⟨1, rfl, by decide⟩
          · exact ⟨2, rfl, by decide⟩
          · exact ⟨1, rfl, by decide⟩
          · exact ⟨3, rfl, by decide⟩
        have ts7 : TS K H5 H7 := (TS.bag off6 hB5).trans ((TS.of u1).trans (TS.bag off7 (hB6.same u1)))
        refine ⟨(show (3 : Nat) ≤ sizeLine by decide), fun tt ntt => ?_⟩
        have u2 := same_upd (o := .tup [V.int (0 + (i : Int)), V.int n, V.int d]) ntt
        have hD7 := u2 _ _ (off7 _ _ hne.1 (u1 _ _ (off6 _ _ hne.1 hD5)))
        refine ⟨D, _, _, rfl, rfl, hD7, ?_, ?_⟩
        · rw [hA.len]
          exact small1000 (by omega)
        · refine ⟨_, xs ++ [.ref tt], fg ++ [(0 + (i : Int), n, d)], rfl, (hB7.same u2).upd hne, ((((off4.trans off5).trans off6).trans (Off.same u1)).trans (off7.trans (Off.same u2))).new nD, upd_same, ?_, ?_, ?_, ?_⟩
          · refine All2.snoc ⟨tt, rfl, TS.upd hD7 _ _ (SqT.of upd_same)⟩ (hA.mono fun _ _ => TriAt.ts (ts5.trans (ts7.trans ((TS.of u2).trans (TS.upd hD7)))))
          · intro t ht
            rcases List.mem_append.mp ht with ht | ht
            · exact ⟨(hG t ht).1, by have := (hG t ht).2; omega⟩
            · rw [List.mem_singleton.mp ht]
              refine ⟨⟨by show (0 : Int) ≤ 0 + (i : Int); omega, by show 0 + (i : Int) < _; omega, n0, ?_, hd.1, hd.2⟩, by show 0 + (i : Int) < _; omega⟩
              show n < cs.getD (0 + (i : Int)).toNat 0
              rw [Int.zero_add, Int.toNat_natCast]
              exact n1
          · rw [List.map_append, List.pairwise_append]
            refine ⟨hU, List.pairwise_singleton _ _, fun x hx y hy => ?_⟩
            obtain ⟨t, ht, rfl⟩ := List.mem_map.mp hx
            rw [List.mem_singleton.mp hy]
            have := (hG t ht).2
            show t.1 < 0 + (i : Int)
            omega
          · rw [List.length_append]
            show fg.length + 1 ≤ i + 1
            omega
      · exact ⟨_, xs, fg, rfl, hB5, off4.trans off5, hD5, hA.mono fun _ _ => TriAt.ts ts5, fun t ht => ⟨(hG t ht).1, by have := (hG t ht).2; omega⟩, hU, by omega⟩
    · rintro σ H' ⟨y3, xs, fg, rfl, hB4, off4, hD, hA, hG, hU, hl⟩
      refine ⟨fun σ' H2 => ∃ (y3 : Option V) (xs : List V) (fg : List Tri), σ' = [some (.ref b), some (.ref p), some (.ref D), y3] ∧ Bag H2 b c ∧ Off b H H2 ∧ H2 D = some (.lst xs) ∧ All2 (TriAt K H2) xs fg ∧ GoodF cs fg, ?_, ?_⟩
      · refine ⟨.ref D, rfl, Nat.zero_le _, fun e ne => ?_⟩
        have u1 := same_upd (o := .lst []) ne
        obtain ⟨ds, hds, hsh, hev⟩ : ∃ ds : List PyData, DpAll K (upd H' e (.lst [])) xs ds ∧ SeqAt.shaped (.list ds) = true ∧ PyData.eqv (.list ds) (.list []) = decide (fg = []) := tri_data (hA.mono fun _ _ => TriAt.ts (TS.of u1))
        refine ⟨.list ds, .list [], .lst (SqL.of (u1 _ _ hD)) hds, .lst (SqL.of upd_same) .nil, hsh, by decide, ?_⟩
        rw [hev]
        refine ⟨_, rfl, ite2 (fun e => ?_) (fun e => ?_)⟩
        · have hfg : fg = [] := of_decide_eq_true e
          subst hfg
          have hxs : xs = [] := List.eq_nil_of_length_eq_zero hA.len
          subst hxs
          have hB5 := hB4.same u1
          have hD5 := u1 _ _ hD
          have off5 := off4.trans (Off.same u1)
          generalize upd H' _ (.lst []) = H5 at hB5 hD5 off5 ⊢
          have hp5 := off5 _ _ hpb hp
          refine ⟨.ref b, rfl, .ref p, rfl, p, _, rfl, .inl (SqL.of hp5), b, c, _, rfl, hB5, by rw [List.length_map]; omega, ?_, fun H6 r off6 hB6 r0 r1 => ?_⟩
          · rw [Int.natAbs_natCast, List.length_map]
            exact Nat.lt_of_le_of_lt h6 (by decide)
          rw [List.length_map] at r1
          obtain ⟨i, rfl⟩ := Int.eq_ofNat_of_zero_le r0
          have hi : i < cs.length := by omega
          have hci := cs_in hi hcs
          have hp6 := off6 _ _ hpb hp5
          have hD6 := off6 _ _ hne.1 hD5
          refine ⟨.ref D, rfl, .inl ⟨rfl, _, SqL.of hD6⟩, .int (i : Nat), rfl, ?_⟩
          refine ⟨.ref b, rfl, .ref p, rfl, .int (i : Nat), rfl, p, _, (i : Int), .int (cs.getD i 0), rfl, rfl, SqL.of hp6, cs_at hi, ?_⟩
          refine ⟨b, c, cs.getD i 0, rfl, hB6, by omega, ?_, fun H7 n off7 hB7 n0 n1 => ?_⟩
          · have : (cs.getD i 0).natAbs ≤ 4 := by omega
            exact Nat.lt_of_le_of_lt this (by decide)
          refine ⟨.ref b, rfl, b, c, 3, rfl, hB7, by decide, by decide, fun H8 d off8 hB8 d0 d1 => ⟨1, d, rfl, rfl, (show (3 : Nat) ≤ sizeLine by decide), fun tt ntt => ?_⟩⟩
          have u2 := same_upd (o := .tup [V.int (i : Int), V.int n, V.int (1 + d)]) ntt
          have hD8 := u2 _ _ (off8 _ _ hne.1 (off7 _ _ hne.1 hD6))
          refine ⟨D, _, _, rfl, rfl, hD8, by decide, ?_⟩
          refine ⟨_, [.ref tt], [((i : Int), n, 1 + d)], rfl, (hB8.same u2).upd hne, (((off5.trans off6).trans off7).trans (off8.trans (Off.same u2))).new nD, upd_same, ⟨⟨tt, rfl, TS.upd hD8 _ _ (SqT.of upd_same)⟩, True.intro⟩, ⟨List.cons_ne_nil _ _, fun t ht => ?_, List.pairwise_singleton _ _⟩⟩
          rw [List.mem_singleton.mp ht]
          refine ⟨by show (0 : Int) ≤ (i : Int); omega, by show (i : Int) < _; omega, n0, ?_, by show (1 : Int) ≤ 1 + d; omega, by show 1 + d ≤ (3 : Int); omega⟩
          show n < cs.getD (i : Int).toNat 0
          rw [Int.toNat_natCast]
          exact n1
        · exact ⟨_, xs, fg, rfl, hB4.same u1, off4.trans (Off.same u1), u1 _ _ hD, hA.mono fun _ _ => TriAt.ts (TS.of u1), ⟨fun z => e (decide_eq_true z), fun t ht => (hG t ht).1, hU⟩⟩
      · rintro σ' H2 ⟨y3, xs, fg, rfl, hB5, off5, hD5, hA5, hG5⟩
        refine ⟨.ref D, rfl, D, _, rfl, .inl (SqL.of hD5), fun l H6 s6 hl6 => ?_⟩
        exact q H6 _ fg (off5.trans (Off.same s6)) (hB5.same s6) ⟨l, xs, rfl, hl6, hA5.mono fun _ _ => TriAt.ts (TS.of s6)⟩ hG5
end
/-! ### who bars whom: the mathematics -/
/-- the note that a figure wants on a pad (of two the later) -/
def noteOf (f : List Tri) (p : Int) : Option Int := f.foldl (fun acc t => if p = t.1 then some t.2.1 else acc) none
theorem noteOf_go (p : Int) : ∀ (f : List Tri) (acc : Option Int), f.foldl (fun acc t => if p = t.1 then some t.2.1 else acc) acc = (noteOf f p).or acc
  | [], acc => by simp [noteOf]
  | t :: r, acc => by
    unfold noteOf
    rw [List.foldl_cons, List.foldl_cons, noteOf_go p r, noteOf_go p r (if p = t.1 then some t.2.1 else none)]
    by_cases h : p = t.1
    · rw [if_pos h, if_pos h]
      cases noteOf r p <;> rfl
    · rw [if_neg h, if_neg h]
      cases noteOf r p <;> rfl
theorem noteOf_cons (t : Tri) (r : List Tri) (p : Int) : noteOf (t :: r) p = (noteOf r p).or (if p = t.1 then some t.2.1 else none) := by
  show List.foldl _ _ (t :: r) = _
  rw [List.foldl_cons, noteOf_go]
theorem noteOf_snoc (f : List Tri) (t : Tri) (p : Int) : noteOf (f ++ [t]) p = if p = t.1 then some t.2.1 else noteOf f p := by
  unfold noteOf
  rw [List.foldl_append]
  rfl
theorem noteOf_some {f : List Tri} {p n : Int} (h : noteOf f p = some n) : ∃ t ∈ f, t.1 = p ∧ t.2.1 = n := by
  induction f with
  | nil => cases h
  | cons t r ih =>
    rw [noteOf_cons] at h
    cases e : noteOf r p with
    | some m =>
      rw [e] at h
      have : m = n := Option.some.inj h
      subst this
      obtain ⟨u, hu, h1, h2⟩ := ih e
      exact ⟨u, List.mem_cons_of_mem _ hu, h1, h2⟩
    | none =>
      rw [e] at h
      by_cases hp : p = t.1
      · rw [if_pos hp] at h
        exact ⟨t, List.mem_cons_self, hp.symm, Option.some.inj h⟩
      · rw [if_neg hp] at h
        cases h
theorem noteOf_none {f : List Tri} {p : Int} (h : noteOf f p = none) : ∀ t ∈ f, t.1 ≠ p := by
  induction f with
  | nil => intro t ht; cases ht
  | cons t r ih =>
    rw [noteOf_cons] at h
    cases e : noteOf r p with
    | some m => rw [e] at h; cases h
    | none =>
      rw [e] at h
      by_cases hp : p = t.1
      · rw [if_pos hp] at h
        cases h
      · intro u hu
        rcases List.mem_cons.mp hu with rfl | hu
        · exact fun z => hp z.symm
        · exact ih e u hu
theorem up_inj {f : List Tri} (h : (f.map (·.1)).Pairwise (· < ·)) {t u : Tri} (ht : t ∈ f) (hu : u ∈ f) (e : t.1 = u.1) : t = u := by
  induction f with
  | nil => cases ht
  | cons x r ih =>
    rw [List.map_cons, List.pairwise_cons] at h
    rcases List.mem_cons.mp ht with h1 | h1 <;> rcases List.mem_cons.mp hu with h2 | h2
    · rw [h1, h2]
    · have := h.1 u.1 (List.mem_map.mpr ⟨u, h2, rfl⟩)
      rw [h1] at e
      omega
    · have := h.1 t.1 (List.mem_map.mpr ⟨t, h1, rfl⟩)
      rw [h2] at e
      omega
    · exact ih h.2 h1 h2
def meetB (f g : List Tri) : Bool := f.any fun t => g.any fun u => decide (u.1 = t.1)
def barB (f g : List Tri) : Bool := g.any fun u => !decide ((noteOf f u.1).getD u.2.1 = u.2.1)
theorem meetB_iff {f g : List Tri} : meetB f g = true ↔ ∃ t ∈ f, ∃ u ∈ g, u.1 = t.1 := by
  unfold meetB
  simp only [List.any_eq_true, decide_eq_true_eq]
theorem meetB_comm (f g : List Tri) : meetB f g = meetB g f := by
  rw [Bool.eq_iff_iff, meetB_iff, meetB_iff]
  constructor
  · rintro ⟨t, ht, u, hu, e⟩
    exact ⟨u, hu, t, ht, e.symm⟩
  · rintro ⟨t, ht, u, hu, e⟩
    exact ⟨u, hu, t, ht, e.symm⟩
theorem barB_iff {f g : List Tri} (hf : (f.map (·.1)).Pairwise (· < ·)) : barB f g = true ↔ ∃ t ∈ f, ∃ u ∈ g, u.1 = t.1 ∧ u.2.1 ≠ t.2.1 := by
  unfold barB
  rw [List.any_eq_true]
  constructor
  · rintro ⟨u, hu, h⟩
    cases e : noteOf f u.1 with
    | none => rw [e] at h; simp at h
    | some n =>
      rw [e] at h
      obtain ⟨t, ht, h1, h2⟩ := noteOf_some e
      refine ⟨t, ht, u, hu, h1.symm, fun z => ?_⟩
      simp only [Option.getD_some, Bool.not_eq_true', decide_eq_false_iff_not] at h
      exact h (by rw [← h2, z])
  · rintro ⟨t, ht, u, hu, h1, h2⟩
    refine ⟨u, hu, ?_⟩
    cases e : noteOf f u.1 with
    | none => exact absurd h1.symm (noteOf_none e t ht)
    | some n =>
      obtain ⟨t', ht', h1', h2'⟩ := noteOf_some e
      have := up_inj hf ht ht' (by rw [h1', h1])
      subst this
      simp only [Option.getD_some, Bool.not_eq_true', decide_eq_false_iff_not]
      rw [← h2']
      exact fun z => h2 z.symm
theorem barB_comm {f g : List Tri} (hf : (f.map (·.1)).Pairwise (· < ·)) (hg : (g.map (·.1)).Pairwise (· < ·)) : barB f g = barB g f := by
  rw [Bool.eq_iff_iff, barB_iff hf, barB_iff hg]
  constructor
  · rintro ⟨t, ht, u, hu, e, n⟩
    exact ⟨u, hu, t, ht, e.symm, fun z => n z.symm⟩
  · rintro ⟨t, ht, u, hu, e, n⟩
    exact ⟨u, hu, t, ht, e.symm, fun z => n z.symm⟩
/-- the others' triples on the first one's pads -/
def commonOf (f g : List Tri) : List Tri := g.filter fun u => (noteOf f u.1).isSome
theorem commonOf_nil {f g : List Tri} : commonOf f g = [] ↔ meetB f g = false := by
  rw [← Bool.not_eq_true, meetB_iff]
  unfold commonOf
  rw [List.filter_eq_nil_iff]
  constructor
  · rintro h ⟨t, ht, u, hu, e⟩
    refine h u hu ?_
    cases e2 : noteOf f u.1 with
    | none => exact absurd e.symm (noteOf_none e2 t ht)
    | some n => rfl
  · intro h u hu e
    cases e2 : noteOf f u.1 with
    | none => rw [e2] at e; cases e
    | some n =>
      obtain ⟨t, ht, h1, _⟩ := noteOf_some e2
      exact h ⟨t, ht, u, hu, h1.symm⟩
theorem common_bar (f g : List Tri) : ((commonOf f g).any fun u => !decide ((noteOf f u.1).getD u.2.1 = u.2.1)) = barB f g := by
  unfold commonOf barB
  rw [List.any_filter]
  congr 1
  funext u
  cases noteOf f u.1 with
  | none => simp
  | some n => simp
/-- two figures of a book: apart, or barring one another -/
def okB (f g : List Tri) : Bool := !meetB f g || barB f g
/-- the figures of a book -/
structure GoodB (cs : List Int) (fs : List (List Tri)) : Prop where
  all : ∀ f ∈ fs, GoodF cs f
  two : fs.Pairwise fun g f => okB f g = true
theorem GoodB.pair {cs : List Int} {fs : List (List Tri)} (h : GoodB cs fs) {i j : Nat} {f g : List Tri} (hij : i < j) (hf : fs[i]? = some f) (hg : fs[j]? = some g) : meetB f g = true → barB f g = true := by
  intro hm
  obtain ⟨hi, rfl⟩ := List.getElem?_eq_some_iff.mp hf
  obtain ⟨hj, rfl⟩ := List.getElem?_eq_some_iff.mp hg
  have h2 := List.pairwise_iff_getElem.mp h.two i j hi hj hij
  unfold okB at h2
  rw [meetB_comm, hm] at h2
  rw [barB_comm (h.all _ (List.getElem_mem hi)).up (h.all _ (List.getElem_mem hj)).up]
  exact h2
/-- a figure's pads and notes as a dict -/
def kvsOf (f : List Tri) : List (Key × V) := f.map fun t => (Sum.inl t.1, V.int t.2.1)
theorem val_merge (p : Int) : ∀ (f : List Tri) (acc : List (Key × V)), valV (mergeK acc (kvsOf f)) (Sum.inl p) = ((noteOf f p).map V.int).or (valV acc (Sum.inl p))
  | [], acc => rfl
  | t :: r, acc => by
    have e : mergeK acc (kvsOf (t :: r)) = mergeK (putK acc (Sum.inl t.1) (.int t.2.1)) (kvsOf r) := rfl
    rw [e, val_merge p r, valV_put, noteOf_cons]
    by_cases h : p = t.1
    · rw [if_pos h, if_pos (by rw [h])]
      cases noteOf r p <;> rfl
    · rw [if_neg h, if_neg (fun z => h (Sum.inl.inj z))]
      cases noteOf r p <;> simp
theorem val_fig (f : List Tri) (p : Int) : valV (mergeK [] (kvsOf f)) (Sum.inl p) = (noteOf f p).map V.int := by
  rw [val_merge]
  cases noteOf f p <;> rfl
theorem merge_snoc (f : List Tri) (t : Tri) : mergeK [] (kvsOf (f ++ [t])) = putK (mergeK [] (kvsOf f)) (Sum.inl t.1) (.int t.2.1) := by
  unfold mergeK kvsOf
  rw [List.map_append, List.foldl_append]
  rfl
theorem putK_len' (c : List (Key × V)) (k : Key) (x : V) : (putK c k x).length ≤ c.length + 1 := by
  unfold putK
  split
  · rw [List.length_map]
    omega
  · rw [List.length_append]
    exact Nat.le_refl _
theorem merge_len (f : List Tri) : (mergeK [] (kvsOf f)).length ≤ f.length := by
  have h : ∀ (f : List Tri) (acc : List (Key × V)), (mergeK acc (kvsOf f)).length ≤ acc.length + f.length := fun f => by
    induction f with
    | nil => intro acc; exact Nat.le_refl _
    | cons t r ih =>
      intro acc
      have e : mergeK acc (kvsOf (t :: r)) = mergeK (putK acc (Sum.inl t.1) (.int t.2.1)) (kvsOf r) := rfl
      have h1 := ih (putK acc (Sum.inl t.1) (.int t.2.1))
      have h2 := putK_len' acc (Sum.inl t.1) (.int t.2.1)
      rw [e, List.length_cons]
      omega
  have := h f []
  rw [List.length_nil, Nat.zero_add] at this
  exact this
/-! ### sets of pads as numbers: the mathematics -/
theorem pow_dvd_sum (p : Nat) : ∀ (l : List Nat), (∀ x ∈ l, p < x) → 2 ^ (p + 1) ∣ (l.map (2 ^ ·)).sum
  | [], _ => ⟨0, rfl⟩
  | x :: l, h => by
    rw [List.map_cons, List.sum_cons]
    exact Nat.dvd_add (Nat.pow_dvd_pow 2 (h x List.mem_cons_self)) (pow_dvd_sum p l fun y hy => h y (List.mem_cons_of_mem _ hy))
theorem sum_bits : ∀ {l : List Nat}, l.Pairwise (· < ·) → ∀ i, (l.map (2 ^ ·)).sum.testBit i = decide (i ∈ l)
  | [], _, i => by simp
  | p :: l, h, i => by
    have h2 := List.pairwise_cons.mp h
    obtain ⟨m, hm⟩ := pow_dvd_sum p l h2.1
    have ih := sum_bits h2.2 i
    have e : ((p :: l).map (2 ^ ·)).sum = 2 ^ (p + 1) * m ||| 2 ^ p := by
      rw [List.map_cons, List.sum_cons, hm, Nat.add_comm]
      exact Nat.two_pow_add_eq_or_of_lt (Nat.pow_lt_pow_right (by decide) (Nat.lt_succ_self p)) m
    rw [e, Nat.testBit_or, ← hm, ih, Nat.testBit_two_pow]
    by_cases z : p = i
    · subst z; simp
    · simp [z, Ne.symm z]
theorem and_bits {a b : List Nat} (ha : a.Pairwise (· < ·)) (hb : b.Pairwise (· < ·)) : ((a.map (2 ^ ·)).sum &&& (b.map (2 ^ ·)).sum) ≠ 0 ↔ ∃ i, i ∈ a ∧ i ∈ b := by
  constructor
  · intro h
    obtain ⟨i, hi⟩ := Nat.exists_testBit_of_ne_zero h
    rw [Nat.testBit_and, sum_bits ha, sum_bits hb, Bool.and_eq_true, decide_eq_true_eq, decide_eq_true_eq] at hi
    exact ⟨i, hi⟩
  · rintro ⟨i, h1, h2⟩ z
    have := congrArg (fun x => Nat.testBit x i) z
    simp only [Nat.testBit_and, sum_bits ha, sum_bits hb, Nat.zero_testBit, h1, h2] at this
    simp at this
/-- the set of a figure's pads as a number -/
def maskN (f : List Tri) : Nat := (f.map fun t => 2 ^ t.1.toNat).sum
/-- pads that rise, none below nought -/
structure PadsUp (f : List Tri) : Prop where
  up : (f.map (·.1)).Pairwise (· < ·)
  lo : ∀ t ∈ f, 0 ≤ t.1
  hi : ∀ t ∈ f, t.1 ≤ 1000
theorem GoodF.padsUp {cs : List Int} {f : List Tri} (h : GoodF cs f) (h6 : cs.length ≤ 6) : PadsUp f := ⟨h.up, fun t ht => (h.all t ht).p0, fun t ht => by have := (h.all t ht).p1; omega⟩
theorem pads_nat {f : List Tri} (h : PadsUp f) : (f.map fun t => t.1.toNat).Pairwise (· < ·) := by
  have h1 := h.up
  have h2 := h.lo
  clear h
  induction f with
  | nil => exact List.Pairwise.nil
  | cons t r ih =>
    rw [List.map_cons, List.pairwise_cons] at h1 ⊢
    refine ⟨fun x hx => ?_, ih h1.2 fun u hu => h2 u (List.mem_cons_of_mem _ hu)⟩
    obtain ⟨u, hu, rfl⟩ := List.mem_map.mp hx
    have a1 := h1.1 u.1 (List.mem_map.mpr ⟨u, hu, rfl⟩)
    have a2 := h2 t List.mem_cons_self
    have a3 := h2 u (List.mem_cons_of_mem _ hu)
    omega
theorem mask_bits {f g : List Tri} (hf : PadsUp f) (hg : PadsUp g) : (maskN f &&& maskN g) ≠ 0 ↔ meetB f g = true := by
  have e : ∀ f : List Tri, maskN f = ((f.map fun t => t.1.toNat).map (2 ^ ·)).sum := fun f => by
    unfold maskN
    rw [List.map_map]
    rfl
  rw [e f, e g, and_bits (pads_nat hf) (pads_nat hg), meetB_iff]
  constructor
  · rintro ⟨i, h1, h2⟩
    obtain ⟨t, ht, e1⟩ := List.mem_map.mp h1
    obtain ⟨u, hu, e2⟩ := List.mem_map.mp h2
    have a2 := hf.lo t ht
    have a3 := hg.lo u hu
    exact ⟨t, ht, u, hu, by omega⟩
  · rintro ⟨t, ht, u, hu, e1⟩
    exact ⟨t.1.toNat, List.mem_map.mpr ⟨t, ht, rfl⟩, List.mem_map.mpr ⟨u, hu, by rw [e1]⟩⟩
/-- as the program asks: one & other != 0 -/
theorem mask_test {f g : List Tri} (hf : PadsUp f) (hg : PadsUp g) : (!decide (V.int (Builtin.bitAnd (maskN f : Nat) (maskN g : Nat)) = V.int 0)) = meetB f g := by
  rw [bitAnd_pp (by omega) (by omega), Int.toNat_natCast, Int.toNat_natCast]
  have := mask_bits hf hg
  cases e : meetB f g with
  | true =>
    rw [e] at this
    have h := this.mpr rfl
    rw [decide_eq_false (fun z => h (by have := V.int.inj z; omega))]
    rfl
  | false =>
    rw [e] at this
    have h : (maskN f &&& maskN g) = 0 := Classical.byContradiction fun z => by cases this.mp z
    rw [h]
    rfl
/-! ### _law_bars -/
abbrev sBars : Stmt := topS 65
abbrev nBars : List Str := ["_law_one", "_law_other", "_law_mine", "_law_common", "_law_pad", "_law_note", "_law_depth"]
theorem scBars : FnScope nBars ["_law_one", "_law_other"] (defScope sBars) := ⟨rfl, rfl, rfl, by decide +kernel, rfl, by decide +kernel, by decide +kernel⟩
def spBars (K : PySem.W.Frag) : Sp := fun vs H Q _ => ∃ (v u : V) (f g : List Tri), vs = [v, u] ∧ FigT K H v f ∧ FigT K H u g ∧ f.length ≤ 100 ∧ g.length ≤ 100 ∧ ∀ H', Same H H' → Q (.bl (okB f g)) H'
abbrev g3 (K : PySem.W.Frag) (i j k : Nat) : TG := gTup K 3 (gCons (gName i) (gCons (gName j) (gCons (gName k) gNil)))
abbrev g2 (K : PySem.W.Frag) (i j : Nat) : TG := gTup K 2 (gCons (gName i) (gCons (gName j) gNil))
def pairV (t : Tri) : List V := [.int t.1, .int t.2.1]
def PairAt (K : PySem.W.Frag) (H : Hp) (v : V) (t : Tri) : Prop := ∃ a, v = .ref a ∧ SqT K H a (pairV t)
theorem PairAt.ts {K : PySem.W.Frag} {H H' : Hp} (e : TS K H H') {v : V} {t : Tri} (h : PairAt K H v t) : PairAt K H' v t := by
  obtain ⟨a, h1, h2⟩ := h
  exact ⟨a, h1, e _ _ h2⟩
theorem pair_paired {K : PySem.W.Frag} {H : Hp} : ∀ {xs : List V} {f : List Tri}, All2 (PairAt K H) xs f → ∃ ps : List Addr, xs = ps.map V.ref ∧ Paired (fun p kv => SqT K H p [kV kv.1, kv.2]) ps (kvsOf f)
  | [], [], _ => ⟨[], rfl, .nil⟩
  | x :: xs, t :: f, h => by
    obtain ⟨a, rfl, ha⟩ := h.1
    obtain ⟨ps, e, hp⟩ := pair_paired h.2
    exact ⟨a :: ps, by rw [e]; rfl, .cons ha hp⟩
  | [], _ :: _, h => h.elim
  | _ :: _, [], h => h.elim
theorem pair_data {K : PySem.W.Frag} {H : Hp} : ∀ {xs : List V} {fg : List Tri}, All2 (PairAt K H) xs fg → ∃ ds : List PyData, DpAll K H xs ds ∧ SeqAt.shaped (.list ds) = true ∧ PyData.eqv (.list ds) (.list []) = decide (fg = []) := by
  intro xs fg h
  refine ⟨fg.map fun t => .tuple [.int t.1, .int t.2.1], ?_, ?_, ?_⟩
  · induction fg generalizing xs with
    | nil =>
      cases xs with
      | nil => exact .nil
      | cons _ _ => exact h.elim
    | cons t r ih =>
      cases xs with
      | nil => exact h.elim
      | cons x l =>
        obtain ⟨a, e, ha⟩ := h.1
        subst e
        exact .cons (.tup ha (.cons (.int _) (.cons (.int _) .nil))) (ih h.2)
  · have h1 : ∀ l : List Tri, PyData.canLayAll0 (l.map fun t => .tuple [.int t.1, .int t.2.1]) = true := fun l => by
      induction l with
      | nil => rfl
      | cons t r ih => simp [PyData.canLayAll0, PyData.canLay0, ih]
    have h2 : ∀ l : List Tri, PyData.depthAll (l.map fun t => .tuple [.int t.1, .int t.2.1]) ≤ 1 := fun l => by
      induction l with
      | nil => simp [PyData.depthAll]
      | cons t r ih =>
        simp only [List.map_cons, PyData.depthAll, PyData.depth]
        omega
    have h3 := h1 fg
    have h4 := h2 fg
    have h5 : PyData.depth (.list (fg.map fun t => .tuple [.int t.1, .int t.2.1])) ≤ 64 := by
      simp only [PyData.depth]
      omega
    show (PyData.canLay0 _ && decide (PyData.depth _ ≤ 64)) = true
    rw [Bool.and_eq_true]
    exact ⟨by simp only [PyData.canLay0]; exact h3, decide_eq_true h5⟩
  · cases fg with
    | nil => simp [PyData.eqv, PyData.eqvAll]
    | cons _ _ => simp [PyData.eqv, PyData.eqvAll]
theorem take_snoc {α : Type} {l : List α} {i : Nat} {a : α} (h : l[i]? = some a) : l.take (i + 1) = l.take i ++ [a] := by
  rw [List.take_add_one, h]
  rfl
section
variable {P : Program} {w : World} {K : PySem.W.Frag} {mg : Str → Option Value} {base : Heap}
theorem ok_bars {f : Addr} {fd : FuncData} {k : Nat} (F : Fun K "_law_bars" "_law_bars" sBars f fd) (md : mg "dict" = none) (ma : mg "any" = none) : FnOk P w K mg base CX0 (k + 1) f fd ["_law_one", "_law_other"] (spBars K) := by
  refine F.ok scBars (fun vs H Q E h => ?_) (fun cdv A outer s H vs Q E hr h => ?_)
  · obtain ⟨v, u, f, g, rfl, _⟩ := h
    rfl
  · obtain ⟨v, u, f, g, rfl, hV, hU, hfl, hgl, q⟩ := h
    obtain ⟨a, xs, rfl, ha, hxs⟩ := hV
    obtain ⟨b, ys, rfl, hb, hys⟩ := hU
    refine ⟨_, pss_cons (ps_set (i := 2) scBars.nd rfl (.inr rfl) (pe_callTy (call_dictP rfl) (by rfl) md (by decide +kernel) (pa_cons (pe_lc (own := [("_law_pad", 4), ("_law_note", 5), ("_law_depth", 6)]) (g := g3 K 4 5 6) (tt := tYes) rfl scBars.nd (pi_tup (pv 0))
        (blkOk_by (own := [("_law_pad", 4), ("_law_note", 5), ("_law_depth", 6)]) (N := nBars) (sc := defScope sBars) (by decide +kernel))
        (fun _ _ _ _ _ => pg_tup rfl (pgs_cons (pg_name (i := 4) scBars.nd rfl (.inl rfl)) (pgs_cons (pg_name (i := 5) scBars.nd rfl (.inl rfl)) (pgs_cons (pg_name (i := 6) scBars.nd rfl (.inl rfl)) pgs_nil)))) (fun _ _ _ _ _ => pts_nil)
        (fun _ _ _ _ _ => pe_tup (pa_cons (pv 4) (pa_cons (pv 5) pa_nil)))) pa_nil)))
      (pss_cons (ps_setLc (i := 3) (own := [("_law_pad", 4), ("_law_note", 5), ("_law_depth", 6)]) (g := g3 K 4 5 6) rfl scBars.nd rfl rfl (sw_true rfl rfl rfl (by decide +kernel)) (pi_tup (pv 1))
        (blkOk_by (own := [("_law_pad", 4), ("_law_note", 5), ("_law_depth", 6)]) (N := nBars) (sc := defScope sBars) (by decide +kernel))
        (fun _ _ _ _ _ => pg_tup rfl (pgs_cons (pg_name (i := 4) scBars.nd rfl (.inl rfl)) (pgs_cons (pg_name (i := 5) scBars.nd rfl (.inl rfl)) (pgs_cons (pg_name (i := 6) scBars.nd rfl (.inl rfl)) pgs_nil))))
        (fun _ _ _ _ _ => pts_one (pt_cmp (pc_din (hu_of hr) (pv 4) (pv 2)))) (fun _ _ _ _ _ => pe_tup (pa_cons (pv 4) (pa_cons (pv 5) pa_nil))))
      (pss_one (ps_ret (pe_or (pe_cmpR (op_eqD hr.units) (pv 3) (pe_lst pa_nil) (nomark _)) (pe_one (pe_callB (cr_any rfl) (by rfl) ma (by decide +kernel) (pa_cons (pe_lc (own := [("_law_pad", 4), ("_law_note", 5)]) (g := g2 K 4 5) (tt := tYes) rfl scBars.nd (pi_list (pv 3))
        (blkOk_by (own := [("_law_pad", 4), ("_law_note", 5)]) (N := nBars) (sc := defScope sBars) (by decide +kernel))
        (fun _ _ _ _ _ => pg_tup rfl (pgs_cons (pg_name (i := 4) scBars.nd rfl (.inl rfl)) (pgs_cons (pg_name (i := 5) scBars.nd rfl (.inl rfl)) pgs_nil))) (fun _ _ _ _ _ => pts_nil)
        (fun _ _ _ _ _ => pe_cmpR op_ne (pe_dget (hu_of hr) (pv 2) (pv 4) (fun _ _ => rfl)) (pv 5) (nomark _))) pa_nil))))))), ?_⟩
    -- mine
    refine ⟨.ref a, rfl, a, rfl, ⟨_, ha⟩, fun D nD => ?_⟩
    refine lc_tup (K := K) (a := a) (xs := xs) (fun i H' => Same H H' ∧ ∃ zs, H' D = some (.lst zs) ∧ All2 (PairAt K H') zs (f.take i)) ⟨same_upd nD, [], upd_same, True.intro⟩ (fun i H' _ hP => Same.tup hP.1 ha) (fun i x H' hx hP => ?_) (fun H1 hP => ?_)
    · obtain ⟨sm, zs, hD, hz⟩ := hP
      obtain ⟨t, ht, tp, rfl, htp⟩ := hxs.get hx
      refine ⟨tp, triV t, rfl, Same.tup sm htp, rfl, _, _, rfl, _, _, rfl, _, _, rfl, rfl, rfl, yesT ⟨_, rfl, _, rfl, (show (2 : Nat) ≤ sizeLine by decide), fun n nn => ?_⟩⟩
      have u1 := same_upd (o := .tup [V.int t.1, V.int t.2.1]) nn
      have hD1 := u1 _ _ hD
      refine ⟨_, hD1, ?_, Same.offUpd (sm.trans u1) nD, zs ++ [.ref n], upd_same, ?_⟩
      · rw [hz.len, List.length_take]
        exact small1000 (by omega)
      · rw [take_snoc ht]
        exact All2.snoc ⟨n, rfl, TS.upd hD1 _ _ (SqT.of upd_same)⟩ (hz.mono fun _ _ => PairAt.ts ((TS.of u1).trans (TS.upd hD1)))
    · obtain ⟨sm1, zs, hD, hz⟩ := hP
      rw [List.take_of_length_le (by rw [hxs.len]; exact Nat.le_refl _)] at hz
      obtain ⟨ps, rfl, hpp⟩ := pair_paired hz
      refine ⟨D, ps, kvsOf f, rfl, SqL.of hD, hpp, fun d nd => ?_⟩
      have u1 := same_upd (o := .dK (mergeK [] (kvsOf f))) nd
      have s1 := sm1.trans u1
      have hd : (upd H1 d (.dK (mergeK [] (kvsOf f)))) d = some (.dK (mergeK [] (kvsOf f))) := upd_same
      generalize upd H1 d (.dK (mergeK [] (kvsOf f))) = H2 at s1 hd ⊢
      -- common
      refine ⟨.ref b, rfl, b, rfl, ⟨_, Same.tup s1 hb⟩, fun D2 nD2 => ?_⟩
      refine lc_tup (K := K) (a := b) (xs := ys) (fun i H' => Same H2 H' ∧ ∃ zs, H' D2 = some (.lst zs) ∧ All2 (PairAt K H') zs (commonOf f (g.take i))) ⟨same_upd nD2, [], upd_same, True.intro⟩ (fun i H' _ hP => Same.tup (s1.trans hP.1) hb) (fun i x H' hx hP => ?_) (fun H3 hP => ?_)
      · obtain ⟨sm, zs, hD2, hz⟩ := hP
        obtain ⟨t, ht, tp, rfl, htp⟩ := hys.get hx
        have hl : zs.length ≤ 100 := by
          rw [hz.len]
          have := List.length_filter_le (fun u : Tri => (noteOf f u.1).isSome) (g.take i)
          rw [List.length_take] at this
          exact Nat.le_trans this (by omega)
        refine ⟨tp, triV t, rfl, Same.tup (s1.trans sm) htp, rfl, _, _, rfl, _, _, rfl, _, _, rfl, rfl, rfl, ?_⟩
        refine ⟨_, rfl, _, rfl, d, _, rfl, DGet.k (k := Sum.inl t.1) (sm _ _ hd), _, rfl, ?_⟩
        rw [val_fig]
        have cm : commonOf f (g.take (i + 1)) = commonOf f (g.take i) ++ (if (noteOf f t.1).isSome = true then [t] else []) := by
          rw [take_snoc ht]
          unfold commonOf
          rw [List.filter_append]
          congr 1
          simp only [List.filter_cons, List.filter_nil]
        cases e : noteOf f t.1 with
        | none =>
          refine iteF ⟨sm, zs, hD2, ?_⟩
          rw [cm, e, if_neg (by simp), List.append_nil]
          exact hz
        | some n0 =>
          refine iteT ⟨_, rfl, _, rfl, (show (2 : Nat) ≤ sizeLine by decide), fun n nn => ?_⟩
          have u1 := same_upd (o := .tup [V.int t.1, V.int t.2.1]) nn
          have hD1 := u1 _ _ hD2
          refine ⟨_, hD1, small1000 (by omega), Same.offUpd (sm.trans u1) nD2, zs ++ [.ref n], upd_same, ?_⟩
          rw [cm, e, if_pos (by simp)]
          exact All2.snoc ⟨n, rfl, TS.upd hD1 _ _ (SqT.of upd_same)⟩ (hz.mono fun _ _ => PairAt.ts ((TS.of u1).trans (TS.upd hD1)))
      · obtain ⟨sm2, zs, hD2, hz⟩ := hP
        rw [List.take_of_length_le (by rw [hys.len]; exact Nat.le_refl _)] at hz
        have s2 := s1.trans sm2
        have hd3 := sm2 _ _ hd
        refine ⟨.ref D2, rfl, Nat.zero_le _, fun e ne => ?_⟩
        have u1 := same_upd (o := .lst []) ne
        obtain ⟨ds, hds, hsh, hev⟩ := pair_data (hz.mono fun _ _ => PairAt.ts (TS.of u1))
        refine ⟨.list ds, .list [], .lst (SqL.of (u1 _ _ hD2)) hds, .lst (SqL.of upd_same) .nil, hsh, by decide, ?_⟩
        rw [hev]
        have s3 := s2.trans u1
        have hd4 := u1 _ _ hd3
        have hD4 := u1 _ _ hD2
        have hz4 := hz.mono fun _ _ => PairAt.ts (TS.of (K := K) u1)
        generalize upd H3 e (.lst []) = H4 at s3 hd4 hD4 hz4 ⊢
        refine ⟨_, rfl, ite2 (fun e => ?_) (fun e => ?_)⟩
        · have e1 := commonOf_nil.mp (of_decide_eq_true e)
          have := q _ s3
          unfold okB at this
          rw [e1] at this
          exact this
        · have e1 : meetB f g = true := by
            cases e2 : meetB f g with
            | true => rfl
            | false => exact absurd (decide_eq_true (commonOf_nil.mpr e2)) e
          refine ⟨.ref D2, rfl, D2, rfl, ⟨_, SqL.of hD4⟩, fun D3 nD3 => ?_⟩
          refine lc_list (K := K) (a := D2) (xs := zs) (fun i H' => Same H4 H' ∧ H' D3 = some (.lst ((((commonOf f g).take i).map fun u => !decide ((noteOf f u.1).getD u.2.1 = u.2.1)).map V.bl))) ⟨same_upd nD3, upd_same⟩ (fun i H' _ hP => SqL.of (hP.1 _ _ hD4)) (fun i x H' hx hP => ?_) (fun H5 hP => ?_)
          · obtain ⟨sm, hD3⟩ := hP
            obtain ⟨t, ht, tp, rfl, htp⟩ := hz4.get hx
            have htm : t ∈ commonOf f g := List.mem_of_getElem? ht
            have hsome := (List.mem_filter.mp htm).2
            obtain ⟨n0, hn0⟩ := Option.isSome_iff_exists.mp hsome
            refine ⟨tp, pairV t, rfl, Same.tup sm htp, rfl, _, _, rfl, _, _, rfl, rfl, rfl, yesT ?_⟩
            refine ⟨_, rfl, _, rfl, d, .int n0, rfl, ?_, _, rfl, rfl, _, hD3, ?_, Same.offUpd sm nD3, ?_⟩
            · have := DGet.k (k := Sum.inl t.1) (sm _ _ hd4)
              rw [val_fig, hn0] at this
              exact this
            · rw [List.length_map, List.length_map, List.length_take]
              have := List.length_filter_le (fun u : Tri => (noteOf f u.1).isSome) g
              have h2 : (commonOf f g).length ≤ g.length := this
              exact small1000 (by omega)
            · rw [upd_same, take_snoc ht, List.map_append, List.map_append]
              have : (!decide (V.int n0 = V.int t.2.1)) = (!decide ((noteOf f t.1).getD t.2.1 = t.2.1)) := by
                rw [hn0, Option.getD_some]
                congr 1
                rw [decide_eq_decide]
                exact ⟨fun z => V.int.inj z, fun z => by rw [z]⟩
              rw [this]
              rfl
          · obtain ⟨sm, hD3⟩ := hP
            rw [hz4.len, List.take_length] at hD3
            refine ⟨D3, _, rfl, SqL.of hD3, ?_⟩
            have := q _ (s3.trans sm)
            unfold okB at this
            rw [e1, ← common_bar] at this
            rw [List.any_map]
            exact this
end
/-! ### _law_shapes -/
abbrev sShapes : Stmt := topS 66
abbrev nShapes : List Str := ["_law_bag_here", "_law_colours", "_law_most", "_law_found", "_law_turn", "_law_one", "_law_other"]
theorem scShapes : FnScope nShapes ["_law_bag_here", "_law_colours", "_law_most"] (defScope sShapes) := ⟨rfl, rfl, rfl, by decide +kernel, rfl, by decide +kernel, by decide +kernel⟩
def spShapes (K : PySem.W.Frag) : Sp := fun vs H Q _ => ∃ (b c p : Addr) (cs : List Int) (most : Nat), vs = [.ref b, .ref p, .int (most : Nat)] ∧ Bag H b c ∧ H p = some (.lst (cs.map V.int)) ∧ p ≠ b ∧ 1 ≤ cs.length ∧ cs.length ≤ 6 ∧ (∀ x ∈ cs, (1 : Int) ≤ x ∧ x ≤ 4) ∧ most ≤ 100 ∧
  ∀ (H' : Hp) (d : Addr) (xs : List V) (fs : List (List Tri)), Off b H H' → Bag H' b c → H d = none → d ≠ b → H' d = some (.lst xs) → All2 (FigT K H') xs fs → GoodB cs fs → fs.length ≤ most → (0 < most → fs ≠ []) → Q (.ref d) H'
section
variable {P : Program} {w : World} {K : PySem.W.Frag} {mg : Str → Option Value} {base : Heap}
theorem ok_shapes {f fS fB : Addr} {fd fdS fdB : FuncData} {k : Nat} (F : Fun K "_law_shapes" "_law_shapes" sShapes f fd) (mr : mg "range" = none) (ma : mg "all" = none)
    (FS : Fun K "_law_shape" "_law_shape" sShape fS fdS) (bS : Binds K fdS ["_law_bag_here", "_law_colours"] []) (gS : mg "_law_shape" = some (.ref fS)) (GS : FnOk P w K mg base CX0 k fS fdS ["_law_bag_here", "_law_colours"] (spShape K))
    (FB : Fun K "_law_bars" "_law_bars" sBars fB fdB) (bB : Binds K fdB ["_law_one", "_law_other"] []) (gB : mg "_law_bars" = some (.ref fB)) (GB : FnOk P w K mg base CX0 k fB fdB ["_law_one", "_law_other"] (spBars K)) :
    FnOk P w K mg base CX0 (k + 1) f fd ["_law_bag_here", "_law_colours", "_law_most"] (spShapes K) := by
  refine F.ok scShapes (fun vs H Q E h => ?_) (fun cdv A outer s H vs Q E hr h => ?_)
  · obtain ⟨b, c, p, cs, most, rfl, _⟩ := h
    rfl
  · obtain ⟨b, c, p, cs, most, rfl, hB, hp, hpb, h1, h6, hcs, hm, q⟩ := h
    refine ⟨_, pss_cons (ps_set (i := 3) scShapes.nd rfl (.inl rfl) (pe_lst pa_nil))
      (pss_cons (ps_for PassesOwn.never rfl (pi_range1 (by rfl) mr (pa_cons (pv 2) pa_nil)) (pg_name (i := 4) scShapes.nd rfl (.inl rfl))
        (pss_cons (ps_set (i := 5) scShapes.nd rfl (.inr rfl) (pe_call GS hr (by rfl) gS FS.kp bS .nil pass0 (pa_cons (pv 0) (pa_cons (pv 1) pa_nil))))
        (pss_one (ps_if (pt_val (pe_callB (cr_all rfl) (by rfl) ma (by decide +kernel) (pa_cons (pe_lc (own := [("_law_other", 6)]) (g := gName 6) (tt := tYes) rfl scShapes.nd (pi_list (pv 3))
            (blkOk_by (own := [("_law_other", 6)]) (N := nShapes) (sc := defScope sShapes) (by decide +kernel)) (fun _ _ _ _ _ => pg_name (i := 6) scShapes.nd rfl (Or.inl rfl)) (fun _ _ _ _ _ => pts_nil)
            (fun _ _ _ _ _ => pe_call GB hr (by rfl) gB FB.kp bB .nil pass0 (pa_cons (pv 5) (pa_cons (pv 6) pa_nil)))) pa_nil)))
          (pss_one (ps_expr (pe_bm PySem.F.plainAttrs_list PySem.F.slot_list_append PySem.F.type_list_append mt_append (pv 3) (pa_cons (pv 5) pa_nil)))) pss_nil))))
      (pss_one (ps_ret (pv 3)))), ?_⟩
    refine ⟨Nat.zero_le _, fun D nD => ?_⟩
    have hne := hB.ne nD
    refine ⟨.int (most : Nat), rfl, (most : Nat), rfl, by omega, by omega, ?_⟩
    rw [Int.toNat_natCast]
    refine for_range (lo := 0) (n := most) (fun i σ H' => ∃ (y4 y5 : Option V) (xs : List V) (fs : List (List Tri)), σ = [some (.ref b), some (.ref p), some (.int (most : Nat)), some (.ref D), y4, y5, none] ∧ Bag H' b c ∧ Off b H H' ∧ H' D = some (.lst xs) ∧ All2 (FigT K H') xs fs ∧ GoodB cs fs ∧ fs.length ≤ i ∧ (0 < i → fs ≠ []))
      ⟨none, none, [], [], rfl, hB.same (same_upd nD), Off.same (same_upd nD), upd_same, True.intro, ⟨fun f hf => (by cases hf), List.Pairwise.nil⟩, Nat.le_refl _, fun z => (by omega)⟩ ?_ ?_
    · rintro i σ H' hi ⟨y4, y5, xs, fs, rfl, hB4, off4, hD, hA, hG, hl, hne0⟩
      refine ⟨.ref b, rfl, .ref p, rfl, b, c, p, cs, rfl, hB4, off4 _ _ hpb hp, hpb, h1, h6, hcs, fun H5 v fg off5 hB5 hV hGf => ?_⟩
      have ts5 : TS K H' H5 := TS.bag off5 hB4
      have hD5 := off5 _ _ hne.1 hD
      have hA5 := hA.mono fun _ _ => FigT.ts ts5
      refine ⟨.ref D, rfl, D, rfl, ⟨_, SqL.of hD5⟩, fun D2 nD2 => ?_⟩
      have hgl := hGf.len
      refine lc_list (K := K) (a := D) (xs := xs) (fun j H' => Same H5 H' ∧ H' D2 = some (.lst (((fs.take j).map fun g => okB fg g).map V.bl))) ⟨same_upd nD2, upd_same⟩ (fun j H' _ hP => SqL.of (hP.1 _ _ hD5)) (fun j x H' hx hP => ?_) (fun H6 hP => ?_)
      · obtain ⟨sm, hD2⟩ := hP
        obtain ⟨g, hg, hgT⟩ := hA5.get hx
        have hgG := hG.all g (List.mem_of_getElem? hg)
        have hgl2 := hgG.len
        refine ⟨rfl, yesT ⟨v, rfl, x, rfl, v, x, fg, g, rfl, hV.ts (TS.of sm), hgT.ts (TS.of sm), by omega, by omega, fun H7 s7 => ?_⟩⟩
        refine ⟨_, s7 _ _ hD2, ?_, Same.offUpd (sm.trans s7) nD2, ?_⟩
        · rw [List.length_map, List.length_map, List.length_take]
          exact small1000 (by omega)
        · rw [upd_same, take_snoc hg, List.map_append, List.map_append]
          rfl
      · obtain ⟨sm, hD2⟩ := hP
        rw [hA5.len, List.take_length] at hD2
        refine ⟨D2, _, rfl, SqL.of hD2, _, rfl, ite2 (fun e => ?_) (fun e => ?_)⟩
        · have hD6 := sm _ _ hD5
          have hA6 := hA5.mono fun _ _ => FigT.ts (TS.of (K := K) sm)
          refine ⟨.ref D, rfl, .inl ⟨rfl, _, SqL.of hD6⟩, v, rfl, D, _, _, rfl, rfl, hD6, ?_, ?_⟩
          · rw [hA6.len]
            exact small1000 (by omega)
          · refine ⟨_, _, xs ++ [v], fs ++ [fg], rfl, (hB5.same sm).upd hne, ((off4.trans off5).trans (Off.same sm)).new nD, upd_same, ?_, ⟨?_, ?_⟩, ?_, fun _ z => by simp at z⟩
            · exact All2.snoc ((hV.ts (TS.of sm)).ts (TS.upd hD6)) (hA6.mono fun _ _ => FigT.ts (TS.upd hD6))
            · intro f hf
              rcases List.mem_append.mp hf with hf | hf
              · exact hG.all f hf
              · rw [List.mem_singleton.mp hf]
                exact hGf
            · rw [List.pairwise_append]
              refine ⟨hG.two, List.pairwise_singleton _ _, fun g hg f hf => ?_⟩
              rw [List.mem_singleton.mp hf]
              rw [List.all_map, List.all_eq_true] at e
              exact e g hg
            · rw [List.length_append]
              show fs.length + 1 ≤ i + 1
              omega
        · refine ⟨_, _, xs, fs, rfl, hB5.same sm, (off4.trans off5).trans (Off.same sm), sm _ _ hD5, hA5.mono fun _ _ => FigT.ts (TS.of sm), hG, by omega, fun _ z => e ?_⟩
          rw [z]
          rfl
    · rintro σ H' ⟨y4, y5, xs, fs, rfl, hB4, off4, hD, hA, hG, hl, hne0⟩
      exact ⟨.ref D, rfl, q H' D xs fs off4 hB4 nD hne.1 hD hA hG hl hne0⟩
end
/-! ### pads_of, mask_of, bar -/
def spPads (K : PySem.W.Frag) : Sp := fun vs H Q _ => ∃ (v : V) (f : List Tri), vs = [v] ∧ FigT K H v f ∧ f.length ≤ 100 ∧ ∀ (H' : Hp) (p : Addr), Same H H' → H p = none → H' p = some (.lst ((f.map (·.1)).map V.int)) → Q (.ref p) H'
abbrev sPadsOf : Stmt := topS 45
abbrev nPadsOf : List Str := ["figure", "pad", "note", "depth"]
theorem scPadsOf : FnScope nPadsOf ["figure"] (defScope sPadsOf) := ⟨rfl, rfl, rfl, by decide +kernel, rfl, by decide +kernel, by decide +kernel⟩
section
variable {P : Program} {w : World} {K : PySem.W.Frag} {mg : Str → Option Value} {base : Heap}
theorem ok_padsof {f : Addr} {fd : FuncData} {k : Nat} (F : Fun K "pads_of" "pads_of" sPadsOf f fd) : FnOk P w K mg base CX0 (k + 1) f fd ["figure"] (spPads K) := by
  refine F.ok scPadsOf (fun vs H Q E h => ?_) (fun cdv A outer s H vs Q E hr h => ?_)
  · obtain ⟨v, f, rfl, _⟩ := h
    rfl
  · obtain ⟨v, f, rfl, hV, hfl, q⟩ := h
    obtain ⟨a, xs, rfl, ha, hxs⟩ := hV
    refine ⟨_, pss_one (ps_ret (pe_lc (own := [("pad", 1), ("note", 2), ("depth", 3)]) (g := g3 K 1 2 3) (tt := tYes) rfl scPadsOf.nd (pi_tup (pv 0))
        (blkOk_by (own := [("pad", 1), ("note", 2), ("depth", 3)]) (N := nPadsOf) (sc := defScope sPadsOf) (by decide +kernel))
        (fun _ _ _ _ _ => pg_tup rfl (pgs_cons (pg_name (i := 1) scPadsOf.nd rfl (.inl rfl)) (pgs_cons (pg_name (i := 2) scPadsOf.nd rfl (.inl rfl)) (pgs_cons (pg_name (i := 3) scPadsOf.nd rfl (.inl rfl)) pgs_nil)))) (fun _ _ _ _ _ => pts_nil)
        (fun _ _ _ _ _ => pv 1))), ?_⟩
    refine ⟨.ref a, rfl, a, rfl, ⟨_, ha⟩, fun D nD => ?_⟩
    refine lc_tup (K := K) (a := a) (xs := xs) (fun i H' => Same H H' ∧ H' D = some (.lst (((f.take i).map (·.1)).map V.int))) ⟨same_upd nD, upd_same⟩ (fun i H' _ hP => Same.tup hP.1 ha) (fun i x H' hx hP => ?_) (fun H1 hP => ?_)
    · obtain ⟨sm, hD⟩ := hP
      obtain ⟨t, ht, tp, rfl, htp⟩ := hxs.get hx
      refine ⟨tp, triV t, rfl, Same.tup sm htp, rfl, _, _, rfl, _, _, rfl, _, _, rfl, rfl, rfl, yesT ⟨_, rfl, _, hD, ?_, Same.offUpd sm nD, ?_⟩⟩
      · rw [List.length_map, List.length_map, List.length_take]
        exact small1000 (by omega)
      · rw [upd_same, take_snoc ht, List.map_append, List.map_append]
        rfl
    · obtain ⟨sm, hD⟩ := hP
      rw [hxs.len, List.take_length] at hD
      exact q H1 D sm nD hD
end
theorem inV_ints (p : Int) (qs : List Int) : inV (.int p) (qs.map V.int) = qs.any fun r => decide (r = p) := by
  unfold inV
  rw [List.any_map]
  congr 1
theorem flat_ints (qs : List Int) : (qs.map V.int).all flatV = true := by
  rw [List.all_map, List.all_eq_true]
  intro x _
  rfl
/-! ### mask_of -/
def spMask (K : PySem.W.Frag) : Sp := fun vs H Q _ => ∃ (v : V) (f : List Tri), vs = [v] ∧ FigT K H v f ∧ f.length ≤ 100 ∧ PadsUp f ∧ ∀ H' : Hp, Same H H' → Q (.int (maskN f : Nat)) H'
abbrev sMask : Stmt := topS 46
abbrev nMask : List Str := ["figure", "pad", "note", "depth"]
theorem scMask : FnScope nMask ["figure"] (defScope sMask) := ⟨rfl, rfl, rfl, by decide +kernel, rfl, by decide +kernel, by decide +kernel⟩
def masksI (f : List Tri) : List Int := f.map fun t => 1 * 2 ^ t.1.toNat
theorem masksI_sum (f : List Tri) : (masksI f).sum = (maskN f : Nat) := by
  unfold masksI maskN
  induction f with
  | nil => rfl
  | cons t r ih =>
    rw [List.map_cons, List.sum_cons, List.map_cons, List.sum_cons, ih]
    push_cast
    omega
section
variable {P : Program} {w : World} {K : PySem.W.Frag} {mg : Str → Option Value} {base : Heap}
theorem ok_mask {f : Addr} {fd : FuncData} {k : Nat} (F : Fun K "mask_of" "mask_of" sMask f fd) (ms : mg "sum" = none) : FnOk P w K mg base CX0 (k + 1) f fd ["figure"] (spMask K) := by
  refine F.ok scMask (fun vs H Q E h => ?_) (fun cdv A outer s H vs Q E hr h => ?_)
  · obtain ⟨v, f, rfl, _⟩ := h
    rfl
  · obtain ⟨v, f, rfl, hV, hfl, hU, q⟩ := h
    obtain ⟨a, xs, rfl, ha, hxs⟩ := hV
    refine ⟨_, pss_one (ps_ret (pe_callB (cr_sum rfl) (by rfl) ms (by decide +kernel) (pa_cons (pe_lc (own := [("pad", 1), ("note", 2), ("depth", 3)]) (g := g3 K 1 2 3) (tt := tYes) rfl scMask.nd (pi_tup (pv 0))
        (blkOk_by (own := [("pad", 1), ("note", 2), ("depth", 3)]) (N := nMask) (sc := defScope sMask) (by decide +kernel))
        (fun _ _ _ _ _ => pg_tup rfl (pgs_cons (pg_name (i := 1) scMask.nd rfl (.inl rfl)) (pgs_cons (pg_name (i := 2) scMask.nd rfl (.inl rfl)) (pgs_cons (pg_name (i := 3) scMask.nd rfl (.inl rfl)) pgs_nil)))) (fun _ _ _ _ _ => pts_nil)
        (fun _ _ _ _ _ => pe_op op_shl pe_int (pv 1))) pa_nil))), ?_⟩
    refine ⟨.ref a, rfl, a, rfl, ⟨_, ha⟩, fun D nD => ?_⟩
    refine lc_tup (K := K) (a := a) (xs := xs) (fun i H' => Same H H' ∧ H' D = some (.lst ((masksI (f.take i)).map V.int))) ⟨same_upd nD, upd_same⟩ (fun i H' _ hP => Same.tup hP.1 ha) (fun i x H' hx hP => ?_) (fun H1 hP => ?_)
    · obtain ⟨sm, hD⟩ := hP
      obtain ⟨t, ht, tp, rfl, htp⟩ := hxs.get hx
      have m := List.mem_of_getElem? ht
      have b1 := hU.lo t m
      have b2 := hU.hi t m
      refine ⟨tp, triV t, rfl, Same.tup sm htp, rfl, _, _, rfl, _, _, rfl, _, _, rfl, rfl, rfl, yesT ⟨_, rfl, 1, t.1, rfl, rfl, ⟨b1, by omega, by decide⟩, _, hD, ?_, Same.offUpd sm nD, ?_⟩⟩
      · unfold masksI
        rw [List.length_map, List.length_map, List.length_take]
        exact small1000 (by omega)
      · unfold masksI
        rw [upd_same, take_snoc ht, List.map_append, List.map_append]
        rfl
    · obtain ⟨sm, hD⟩ := hP
      rw [hxs.len, List.take_length] at hD
      refine ⟨D, _, rfl, SqL.of hD, ?_⟩
      rw [masksI_sum]
      exact q H1 sm
end
def spBar (K : PySem.W.Frag) : Sp := fun vs H Q _ => ∃ (v u : V) (f g : List Tri), vs = [v, u] ∧ FigT K H v f ∧ FigT K H u g ∧ f.length ≤ 100 ∧ g.length ≤ 100 ∧ ∀ H', Same H H' → Q (.bl (barB f g)) H'
abbrev sBar : Stmt := topS 47
abbrev nBar : List Str := ["one", "other", "wanted", "pad", "note", "depth"]
theorem scBar : FnScope nBar ["one", "other"] (defScope sBar) := ⟨rfl, rfl, rfl, by decide +kernel, rfl, by decide +kernel, by decide +kernel⟩
section
variable {P : Program} {w : World} {K : PySem.W.Frag} {mg : Str → Option Value} {base : Heap}
theorem ok_bar {f : Addr} {fd : FuncData} {k : Nat} (F : Fun K "bar" "bar" sBar f fd) (ma : mg "any" = none) : FnOk P w K mg base CX0 (k + 1) f fd ["one", "other"] (spBar K) := by
  refine F.ok scBar (fun vs H Q E h => ?_) (fun cdv A outer s H vs Q E hr h => ?_)
  · obtain ⟨v, u, f, g, rfl, _⟩ := h
    rfl
  · obtain ⟨v, u, f, g, rfl, hV, hU, hfl, hgl, q⟩ := h
    obtain ⟨a, xs, rfl, ha, hxs⟩ := hV
    obtain ⟨b, ys, rfl, hb, hys⟩ := hU
    refine ⟨_, pss_cons (ps_set (i := 2) scBar.nd rfl (.inr rfl) (pe_dc (own := [("pad", 3), ("note", 4), ("depth", 5)]) (g := g3 K 3 4 5) (tt := tYes) rfl scBar.nd (pi_tup (pv 0))
        (blkOk_by (own := [("pad", 3), ("note", 4), ("depth", 5)]) (N := nBar) (sc := defScope sBar) (by decide +kernel))
        (fun _ _ _ _ _ => pg_tup rfl (pgs_cons (pg_name (i := 3) scBar.nd rfl (.inl rfl)) (pgs_cons (pg_name (i := 4) scBar.nd rfl (.inl rfl)) (pgs_cons (pg_name (i := 5) scBar.nd rfl (.inl rfl)) pgs_nil)))) (fun _ _ _ _ _ => pts_nil)
        (fun _ _ _ _ _ => pv 3) (fun _ _ _ _ _ => pv 4)))
      (pss_one (ps_ret (pe_callB (cr_any rfl) (by rfl) ma (by decide +kernel) (pa_cons (pe_lc (own := [("pad", 3), ("note", 4), ("depth", 5)]) (g := g3 K 3 4 5) (tt := tYes) rfl scBar.nd (pi_tup (pv 1))
        (blkOk_by (own := [("pad", 3), ("note", 4), ("depth", 5)]) (N := nBar) (sc := defScope sBar) (by decide +kernel))
        (fun _ _ _ _ _ => pg_tup rfl (pgs_cons (pg_name (i := 3) scBar.nd rfl (.inl rfl)) (pgs_cons (pg_name (i := 4) scBar.nd rfl (.inl rfl)) (pgs_cons (pg_name (i := 5) scBar.nd rfl (.inl rfl)) pgs_nil)))) (fun _ _ _ _ _ => pts_nil)
        (fun _ _ _ _ _ => pe_cmpR op_ne (pe_dget2 (hu_of hr) (pv 2) (pv 3) (pv 4) ⟨rfl, rfl, rfl, rfl⟩) (pv 4) (nomark _))) pa_nil)))), ?_⟩
    refine ⟨.ref a, rfl, a, rfl, ⟨_, ha⟩, fun D nD => ?_⟩
    refine dc_tup (K := K) (a := a) (xs := xs) (fun i H' => Same H H' ∧ H' D = some (.dK (mergeK [] (kvsOf (f.take i))))) ⟨same_upd nD, upd_same⟩ (fun i H' _ hP => Same.tup hP.1 ha) (fun i x H' hx hP => ?_) (fun H1 hP => ?_)
    · obtain ⟨sm, hD⟩ := hP
      obtain ⟨t, ht, tp, rfl, htp⟩ := hxs.get hx
      refine ⟨tp, triV t, rfl, Same.tup sm htp, rfl, _, _, rfl, _, _, rfl, _, _, rfl, rfl, rfl, yesT ⟨_, rfl, _, rfl, _, Sum.inl t.1, rfl, hD, ?_, Same.offUpd sm nD, ?_⟩⟩
      · have := merge_len (f.take i)
        rw [List.length_take] at this
        exact small1000 (by omega)
      · rw [upd_same, take_snoc ht, merge_snoc]
    · obtain ⟨s1, hD⟩ := hP
      rw [hxs.len, List.take_length] at hD
      refine ⟨.ref b, rfl, b, rfl, ⟨_, Same.tup s1 hb⟩, fun D2 nD2 => ?_⟩
      refine lc_tup (K := K) (a := b) (xs := ys) (fun i H' => Same H1 H' ∧ H' D2 = some (.lst (((g.take i).map fun u => !decide ((noteOf f u.1).getD u.2.1 = u.2.1)).map V.bl))) ⟨same_upd nD2, upd_same⟩ (fun i H' _ hP => Same.tup (s1.trans hP.1) hb) (fun i x H' hx hP => ?_) (fun H2 hP => ?_)
      · obtain ⟨sm, hD2⟩ := hP
        obtain ⟨t, ht, tp, rfl, htp⟩ := hys.get hx
        refine ⟨tp, triV t, rfl, Same.tup (s1.trans sm) htp, rfl, _, _, rfl, _, _, rfl, _, _, rfl, rfl, rfl, yesT ?_⟩
        refine ⟨_, rfl, D, rfl, .inl ⟨_, .inl (sm _ _ hD)⟩, _, rfl, _, rfl, _, DGet.k (k := Sum.inl t.1) (sm _ _ hD), _, rfl, ?_⟩
        rw [val_fig]
        have ev : (((noteOf f t.1).map V.int).getD (V.int t.2.1)) = V.int ((noteOf f t.1).getD t.2.1) := by
          cases noteOf f t.1 <;> rfl
        rw [ev]
        refine ⟨rfl, _, hD2, ?_, Same.offUpd sm nD2, ?_⟩
        · rw [List.length_map, List.length_map, List.length_take]
          exact small1000 (by omega)
        · rw [upd_same, take_snoc ht, List.map_append, List.map_append]
          have : (!decide (V.int ((noteOf f t.1).getD t.2.1) = V.int t.2.1)) = (!decide ((noteOf f t.1).getD t.2.1 = t.2.1)) := by
            congr 1
            rw [decide_eq_decide]
            exact ⟨fun z => V.int.inj z, fun z => by rw [z]⟩
          rw [this]
          rfl
      · obtain ⟨sm, hD2⟩ := hP
        rw [hys.len, List.take_length] at hD2
        refine ⟨D2, _, rfl, SqL.of hD2, ?_⟩
        have := q _ (s1.trans sm)
        unfold barB at this
        rw [List.any_map]
        exact this
end
/-! ### is_triple, is_figure -/
def spIsTri (K : PySem.W.Frag) : Sp := fun vs H Q _ => ∃ (a : Addr) (cs : List Int) (v : V) (t : Tri), vs = [.ref a, v] ∧ (SqL K H a (cs.map V.int) ∨ SqT K H a (cs.map V.int)) ∧ TriAt K H v t ∧ GoodT cs t ∧ ∀ H', Same H H' → Q (.bl true) H'
abbrev sIsTri : Stmt := topS 42
abbrev nIsTri : List Str := ["colours", "triple", "pad", "note", "depth"]
theorem scIsTri : FnScope nIsTri ["colours", "triple"] (defScope sIsTri) := ⟨rfl, rfl, rfl, by decide +kernel, rfl, by decide +kernel, by decide +kernel⟩
section
variable {P : Program} {w : World} {K : PySem.W.Frag} {mg : Str → Option Value} {base : Heap}
theorem ok_istri {f : Addr} {fd : FuncData} {k : Nat} {tkD : Tok} (F : Fun K "is_triple" "is_triple" sIsTri f fd) (ml : mg "len" = none) (mD : mg "MOST_DEPTH" = some (.int 3 tkD)) : FnOk P w K mg base CX0 (k + 1) f fd ["colours", "triple"] (spIsTri K) := by
  refine F.ok scIsTri (fun vs H Q E h => ?_) (fun cdv A outer s H vs Q E hr h => ?_)
  · obtain ⟨a, cs, v, t, rfl, _⟩ := h
    rfl
  · obtain ⟨a, cs, v, t, rfl, ha, ⟨tp, rfl, htp⟩, hG, q⟩ := h
    refine ⟨_, pss_cons (ps_if (pt_cmpR op_ne (pe_callB call_lenQ (by rfl) ml PySem.boot_len (pa_cons (pv 1) pa_nil)) pe_int (nomark _)) (pss_one (ps_ret pe_bl)) pss_nil)
      (pss_cons (ps_asg (pv 1) (pg_tup rfl (pgs_cons (pg_name (i := 2) scIsTri.nd rfl (.inl rfl)) (pgs_cons (pg_name (i := 3) scIsTri.nd rfl (.inl rfl)) (pgs_cons (pg_name (i := 4) scIsTri.nd rfl (.inl rfl)) pgs_nil)))))
      (pss_one (ps_ret (pe_and (pe_chain op_le op_lt pe_int (pv 2) (pe_callB call_lenQ (by rfl) ml PySem.boot_len (pa_cons (pv 0) pa_nil)))
        (pe_and (pe_chain op_le op_lt pe_int (pv 3) (pe_ix ix_seq (pv 0) (pv 2) (fun _ _ => rfl))) (pe_one (pe_chain op_le op_le pe_int (pv 4) (pe_glob (v := .int 3) (by rfl) mD ⟨_, rfl⟩)))))))), ?_⟩
    refine ⟨.ref tp, rfl, tp, _, rfl, .inr htp, rfl, _, rfl, iteNS rfl ?_⟩
    refine ⟨.ref tp, rfl, tp, _, rfl, htp, rfl, _, _, rfl, _, _, rfl, _, _, rfl, rfl, ?_⟩
    have d1 : decide ((0 : Int) ≤ t.1) = true := decide_eq_true hG.p0
    have d2 : decide (t.1 < (((cs.map V.int).length : Nat) : Int)) = true := decide_eq_true (by rw [List.length_map]; exact hG.p1)
    have d3 : decide ((0 : Int) ≤ t.2.1) = true := decide_eq_true hG.n0
    have d4 : decide (t.2.1 < cs.getD t.1.toNat 0) = true := decide_eq_true hG.n1
    have d5 : decide ((1 : Int) ≤ t.2.2) = true := decide_eq_true hG.d0
    have d6 : decide (t.2.2 ≤ (3 : Int)) = true := decide_eq_true hG.d1
    have hp0 := hG.p0
    have hp1 := hG.p1
    have e0 : ((t.1.toNat : Nat) : Int) = t.1 := Int.toNat_of_nonneg hp0
    have hi : t.1.toNat < cs.length := by omega
    have hread : ∀ Q : VK, Q (.int (cs.getD t.1.toNat 0)) H → rIx K (.ref a) (.int t.1) H Q := fun Q z => by
      have g := cs_at hi
      rw [e0] at g
      rcases ha with ha | ha
      · exact .inl ⟨a, _, _, _, rfl, rfl, ha, g, z⟩
      · exact .inr (.inl ⟨a, _, _, _, rfl, rfl, ha, g, z⟩)
    refine ⟨.int t.1, rfl, 0, t.1, rfl, rfl, _, rfl, ?_⟩
    rw [d1]
    refine iteT ⟨.ref a, rfl, a, _, rfl, ha, t.1, _, rfl, rfl, _, rfl, ?_⟩
    rw [d2]
    refine iteT ⟨.int t.2.1, rfl, 0, t.2.1, rfl, rfl, _, rfl, ?_⟩
    rw [d3]
    refine iteT ⟨.ref a, rfl, .int t.1, rfl, hread _ ⟨t.2.1, _, rfl, rfl, _, rfl, ?_⟩⟩
    rw [d4]
    refine iteT ⟨.int t.2.2, rfl, 1, t.2.2, rfl, rfl, _, rfl, ?_⟩
    rw [d5]
    refine iteT ⟨t.2.2, 3, rfl, rfl, ?_⟩
    show Q (V.bl (decide (t.2.2 ≤ (3 : Int)))) H
    rw [d6]
    exact q _ (Same.refl _)
end
def spIsFig (K : PySem.W.Frag) : Sp := fun vs H Q _ => ∃ (a : Addr) (cs : List Int) (v : V) (f : List Tri), vs = [.ref a, v] ∧ (SqL K H a (cs.map V.int) ∨ SqT K H a (cs.map V.int)) ∧ FigT K H v f ∧ GoodF cs f ∧ f.length ≤ 100 ∧ ∀ H', Same H H' → Q (.bl true) H'
abbrev sIsFig : Stmt := topS 41
abbrev nIsFig : List Str := ["colours", "figure", "pads", "triple", "pad", "later"]
theorem scIsFig : FnScope nIsFig ["colours", "figure"] (defScope sIsFig) := ⟨rfl, rfl, rfl, by decide +kernel, rfl, by decide +kernel, by decide +kernel⟩
section
variable {P : Program} {w : World} {K : PySem.W.Frag} {mg : Str → Option Value} {base : Heap}
theorem ok_isfig {f fT fP : Addr} {fd fdT fdP : FuncData} {k : Nat} {tkD : Tok} (F : Fun K "is_figure" "is_figure" sIsFig f fd) (ml : mg "len" = none) (ma : mg "all" = none) (mz : mg "zip" = none) (mD : mg "MOST_DEPTH" = some (.int 3 tkD))
    (FT : Fun K "is_triple" "is_triple" sIsTri fT fdT) (bT : Binds K fdT ["colours", "triple"] []) (gT : mg "is_triple" = some (.ref fT))
    (FP : Fun K "pads_of" "pads_of" sPadsOf fP fdP) (bP : Binds K fdP ["figure"] []) (gP : mg "pads_of" = some (.ref fP)) : FnOk P w K mg base CX0 (k + 2) f fd ["colours", "figure"] (spIsFig K) := by
  have GT : FnOk P w K mg base CX0 (k + 1) fT fdT ["colours", "triple"] (spIsTri K) := ok_istri FT ml mD
  have GP : FnOk P w K mg base CX0 (k + 1) fP fdP ["figure"] (spPads K) := ok_padsof FP
  refine F.ok scIsFig (fun vs H Q E h => ?_) (fun cdv A outer s H vs Q E hr h => ?_)
  · obtain ⟨a, cs, v, f, rfl, _⟩ := h
    rfl
  · obtain ⟨a, cs, v, f, rfl, ha, hV, hG, hfl, q⟩ := h
    obtain ⟨b, xs, rfl, hb, hxs⟩ := id hV
    refine ⟨_, pss_cons (ps_if (PW.pt (pw_or (pt_cmpR op_eq (pe_callB call_lenQ (by rfl) ml PySem.boot_len (pa_cons (pv 1) pa_nil)) pe_int (nomark _))
        (pw_or1 (pt_not (pt_val (pe_callB (cr_all rfl) (by rfl) ma (by decide +kernel) (pa_cons (pe_lc (own := [("triple", 3)]) (g := gName 3) (tt := tYes) rfl scIsFig.nd (pi_tup (pv 1))
          (blkOk_by (own := [("triple", 3)]) (N := nIsFig) (sc := defScope sIsFig) (by decide +kernel)) (fun _ _ _ _ _ => pg_name (i := 3) scIsFig.nd rfl (.inl rfl)) (fun _ _ _ _ _ => pts_nil)
          (fun _ _ _ _ _ => pe_call GT hr (by rfl) gT FT.kp bT .nil pass0 (pa_cons (pv 0) (pa_cons (pv 3) pa_nil)))) pa_nil))))))) (pss_one (ps_ret pe_bl)) pss_nil)
      (pss_cons (ps_set (i := 2) scIsFig.nd rfl (.inl rfl) (pe_call GP hr (by rfl) gP FP.kp bP .nil pass0 (pa_cons (pv 1) pa_nil)))
      (pss_one (ps_ret (pe_callB (cr_all rfl) (by rfl) ma (by decide +kernel) (pa_cons (pe_lc (own := [("pad", 4), ("later", 5)]) (g := g2 K 4 5) (tt := tYes) rfl scIsFig.nd (pi_zip (by rfl) mz (pa_cons (pv 2) (pa_cons (pe_slice sl_list (pv 2) (po_some pe_int) po_none) pa_nil)))
        (blkOk_by (own := [("pad", 4), ("later", 5)]) (N := nIsFig) (sc := defScope sIsFig) (by decide +kernel))
        (fun _ _ _ _ _ => pg_tup rfl (pgs_cons (pg_name (i := 4) scIsFig.nd rfl (.inl rfl)) (pgs_cons (pg_name (i := 5) scIsFig.nd rfl (.inl rfl)) pgs_nil))) (fun _ _ _ _ _ => pts_nil)
        (fun _ _ _ _ _ => pe_cmpR op_lt (pv 4) (pv 5) (nomark _))) pa_nil))))), ?_⟩
    have hlen : 0 < f.length := List.length_pos_iff.mpr hG.ne
    have hxl := hxs.len
    refine ⟨.ref b, rfl, b, _, rfl, .inr hb, rfl, _, rfl, ?_⟩
    rw [decide_eq_false (fun z => by have := V.int.inj z; omega)]
    refine iteF ?_
    refine ⟨.ref b, rfl, b, rfl, ⟨_, hb⟩, fun D nD => ?_⟩
    refine lc_tup (K := K) (a := b) (xs := xs) (fun i H' => Same H H' ∧ H' D = some (.lst ((List.replicate i true).map V.bl))) ⟨same_upd nD, upd_same⟩ (fun i H' _ hP => Same.tup hP.1 hb) (fun i x H' hx hP => ?_) (fun H1 hP => ?_)
    · obtain ⟨sm, hD⟩ := hP
      obtain ⟨t, ht, htp⟩ := hxs.get hx
      have hi : i < xs.length := (List.getElem?_eq_some_iff.mp hx).1
      refine ⟨rfl, yesT ⟨.ref a, rfl, x, rfl, a, cs, x, t, rfl, same_any sm ha, htp.ts (TS.of sm), hG.all t (List.mem_of_getElem? ht), fun H2 s2 => ⟨_, s2 _ _ hD, ?_, Same.offUpd (sm.trans s2) nD, ?_⟩⟩⟩
      · rw [List.length_map, List.length_replicate]
        exact small1000 (by omega)
      · rw [upd_same, List.replicate_succ', List.map_append]
        rfl
    · obtain ⟨s1, hD⟩ := hP
      refine ⟨D, _, rfl, SqL.of hD, ?_⟩
      rw [show (List.replicate xs.length true).all id = true by simp]
      refine ⟨_, rfl, iteF ?_⟩
      refine ⟨_, rfl, _, f, rfl, hV.ts (TS.of s1), hfl, fun H2 p s2 _ hp => ?_⟩
      refine ⟨.ref p, rfl, .ref p, rfl, 1, rfl, p, _, rfl, SqL.of hp, fun p2 np2 => ?_⟩
      rw [show (some (1 : Int)) = some ((1 : Nat) : Int) from rfl, cutV_from]
      have s3 := same_upd (o := .lst (((f.map (·.1)).map V.int).drop 1)) np2
      refine ⟨p, p2, _, _, rfl, SqL.of (s3 _ _ hp), SqL.of upd_same, fun D2 nD2 => ?_⟩
      have hp3 := s3 _ _ hp
      have hp23 : (upd H2 p2 (.lst (((f.map (·.1)).map V.int).drop 1))) p2 = some (.lst (((f.map (·.1)).map V.int).drop 1)) := upd_same
      have s123 := (s1.trans s2).trans s3
      generalize upd H2 p2 (.lst (((f.map (·.1)).map V.int).drop 1)) = H3 at hp3 hp23 s123 nD2 ⊢
      refine lc_it (walk_zip (K := K) (a := p) (b := p2) (xs := (f.map (·.1)).map V.int) (ys := ((f.map (·.1)).map V.int).drop 1) rfl) (fun i H' => Same H3 H' ∧ H' D2 = some (.lst ((List.replicate i true).map V.bl))) ⟨same_upd nD2, upd_same⟩ (fun i H' _ hP => ⟨SqL.of (hP.1 _ _ hp3), SqL.of (hP.1 _ _ hp23)⟩) (fun i v H' H'' hi hP hY => ?_) (fun H4 hP => ?_)
      · obtain ⟨sm, hD2⟩ := hP
        obtain ⟨T, x, y, rfl, nT, rfl, hx, hy⟩ := hY
        have u1 := same_upd (o := .tup [x, y]) nT
        rw [List.length_drop, List.length_map, List.length_map] at hi
        have h1 : i < (f.map (·.1)).length := by rw [List.length_map]; omega
        have h2 : i + 1 < (f.map (·.1)).length := by rw [List.length_map]; omega
        have ex : x = .int (f.map (·.1))[i] := by
          have hx : ((f.map (·.1)).map V.int)[i]? = some x := hx
          rw [List.getElem?_map, List.getElem?_eq_getElem h1] at hx
          exact (Option.some.inj hx).symm
        have ey : y = .int (f.map (·.1))[i + 1] := by
          have hy : (((f.map (·.1)).map V.int).drop 1)[i]? = some y := hy
          rw [List.getElem?_drop, Nat.add_comm 1 i, List.getElem?_map, List.getElem?_eq_getElem h2] at hy
          exact (Option.some.inj hy).symm
        have hlt := List.pairwise_iff_getElem.mp hG.up i (i + 1) h1 h2 (Nat.lt_succ_self i)
        have hD2' := u1 _ _ hD2
        refine ⟨T, [x, y], rfl, SqT.of upd_same, rfl, x, _, rfl, y, _, rfl, rfl, rfl, yesT ⟨x, rfl, y, rfl, _, _, ex, ey, ?_⟩⟩
        refine ⟨_, hD2', ?_, Same.offUpd (sm.trans u1) nD2, ?_⟩
        · rw [List.length_map, List.length_replicate]
          exact small1000 (by omega)
        · rw [upd_same, List.replicate_succ', List.map_append]
          show some (HO.lst (_ ++ [V.bl (decide ((f.map (·.1))[i] < (f.map (·.1))[i + 1]))])) = _
          rw [decide_eq_true hlt]
          rfl
      · obtain ⟨sm, hD2⟩ := hP
        refine ⟨D2, _, rfl, SqL.of hD2, ?_⟩
        have e : (List.replicate (min ((f.map (·.1)).map V.int).length (((f.map (·.1)).map V.int).drop 1).length) true).all id = true := by simp
        rw [e]
        exact q _ (s123.trans sm)
end
/-! ### check_colours, check_figures, check_meetings, copy_of_figure -/
def GoodC (cs : List Int) : Prop := 1 ≤ cs.length ∧ cs.length ≤ 6 ∧ ∀ x ∈ cs, (1 : Int) ≤ x ∧ x ≤ 4
def spCCol (K : PySem.W.Frag) : Sp := fun vs H Q _ => ∃ (a : Addr) (cs : List Int), vs = [.ref a] ∧ SqL K H a (cs.map V.int) ∧ GoodC cs ∧ ∀ H', Same H H' → Q .non H'
abbrev sCCol : Stmt := topS 39
abbrev nCCol : List Str := ["colours", "at", "many"]
theorem scCCol : FnScope nCCol ["colours"] (defScope sCCol) := ⟨rfl, rfl, rfl, by decide +kernel, rfl, by decide +kernel, by decide +kernel⟩
section
variable {P : Program} {w : World} {K : PySem.W.Frag} {mg : Str → Option Value} {base : Heap}
theorem ok_ccol {f : Addr} {fd : FuncData} {k : Nat} {tkP tkC : Tok} (F : Fun K "check_colours" "check_colours" sCCol f fd) (ml : mg "len" = none) (me : mg "enumerate" = none) (mP : mg "MOST_PADS" = some (.int 6 tkP)) (mC : mg "MOST_COLOURS" = some (.int 4 tkC)) : FnOk P w K mg base CX0 (k + 1) f fd ["colours"] (spCCol K) := by
  refine F.ok scCCol (fun vs H Q E h => ?_) (fun cdv A outer s H vs Q E hr h => ?_)
  · obtain ⟨a, cs, rfl, _⟩ := h
    rfl
  · obtain ⟨a, cs, rfl, ha, hG, q⟩ := h
    refine ⟨_, pss_cons (ps_if (pt_not (pt_chain op_le op_le pe_int (pe_callB call_lenQ (by rfl) ml PySem.boot_len (pa_cons (pv 0) pa_nil)) (pe_glob (v := .int 6) (by rfl) mP ⟨_, rfl⟩))) (pss_one ps_never) pss_nil)
      (pss_one (ps_for PassesOwn.never rfl (pi_enum (by rfl) me (pa_cons (pv 0) pa_nil)) (pg_tup rfl (pgs_cons (pg_name (i := 1) scCCol.nd rfl (.inl rfl)) (pgs_cons (pg_name (i := 2) scCCol.nd rfl (.inl rfl)) pgs_nil)))
        (pss_one (ps_if (pt_not (pt_chain op_le op_le pe_int (pv 2) (pe_glob (v := .int 4) (by rfl) mC ⟨_, rfl⟩))) (pss_one ps_never) pss_nil)))), ?_⟩
    obtain ⟨h1, h6, hc⟩ := hG
    have d1 : decide ((1 : Int) ≤ (((cs.map V.int).length : Nat) : Int)) = true := decide_eq_true (by rw [List.length_map]; omega)
    have d2 : (((cs.map V.int).length : Nat) : Int) ≤ (6 : Int) := by rw [List.length_map]; omega
    refine ⟨.ref a, rfl, a, _, rfl, .inl ha, 1, _, rfl, rfl, _, rfl, ?_⟩
    rw [d1]
    refine iteT ⟨_, 6, rfl, rfl, _, rfl, iteNS d2 ?_⟩
    refine ⟨.ref a, rfl, a, _, rfl, ha, ?_⟩
    refine for_it (walk_enum (K := K) (a := a) (xs := cs.map V.int)) (fun i σ H' => ∃ (y1 y2 : Option V), σ = [some (.ref a), y1, y2] ∧ Same H H') ⟨none, none, rfl, Same.refl H⟩ (fun i σ H' _ hP => ?_) (fun i v σ H' H'' hi hP hY => ?_) (fun σ H' hP => ?_)
    · obtain ⟨_, _, _, sm⟩ := hP
      exact sm.seq ha
    · obtain ⟨y1, y2, rfl, sm⟩ := hP
      obtain ⟨T, x, y, rfl, nT, rfl, hx, hy⟩ := hY
      have u1 := same_upd (o := .tup [x, y]) nT
      rw [List.length_map] at hi
      have ey : y = .int cs[i] := by
        have hy : (cs.map V.int)[i]? = some y := hy
        rw [List.getElem?_map, List.getElem?_eq_getElem hi] at hy
        exact (Option.some.inj hy).symm
      subst ey
      have hci := hc _ (List.getElem_mem hi)
      refine ⟨T, _, rfl, SqT.of upd_same, rfl, x, _, rfl, _, _, rfl, rfl, ?_⟩
      refine ⟨_, rfl, 1, cs[i], rfl, rfl, _, rfl, ?_⟩
      rw [decide_eq_true hci.1]
      exact iteT ⟨cs[i], 4, rfl, rfl, _, rfl, iteNS hci.2 ⟨_, _, rfl, sm.trans u1⟩⟩
    · obtain ⟨y1, y2, rfl, sm⟩ := hP
      exact q _ sm
end
def spCFig (K : PySem.W.Frag) : Sp := fun vs H Q _ => ∃ (a b : Addr) (cs : List Int) (xs : List V) (fs : List (List Tri)), vs = [.ref a, .ref b] ∧ (SqL K H a (cs.map V.int) ∨ SqT K H a (cs.map V.int)) ∧ SqL K H b xs ∧ All2 (FigT K H) xs fs ∧ GoodB cs fs ∧ cs.length ≤ 6 ∧ ∀ H', Same H H' → Q .non H'
abbrev sCFig : Stmt := topS 40
abbrev nCFig : List Str := ["colours", "figures", "at", "figure"]
theorem scCFig : FnScope nCFig ["colours", "figures"] (defScope sCFig) := ⟨rfl, rfl, rfl, by decide +kernel, rfl, by decide +kernel, by decide +kernel⟩
section
variable {P : Program} {w : World} {K : PySem.W.Frag} {mg : Str → Option Value} {base : Heap}
theorem ok_cfig {f fI : Addr} {fd fdI : FuncData} {k : Nat} (F : Fun K "check_figures" "check_figures" sCFig f fd) (me : mg "enumerate" = none)
    (FI : Fun K "is_figure" "is_figure" sIsFig fI fdI) (bI : Binds K fdI ["colours", "figure"] []) (gI : mg "is_figure" = some (.ref fI)) (GI : FnOk P w K mg base CX0 k fI fdI ["colours", "figure"] (spIsFig K)) : FnOk P w K mg base CX0 (k + 1) f fd ["colours", "figures"] (spCFig K) := by
  refine F.ok scCFig (fun vs H Q E h => ?_) (fun cdv A outer s H vs Q E hr h => ?_)
  · obtain ⟨a, b, cs, xs, fs, rfl, _⟩ := h
    rfl
  · obtain ⟨a, b, cs, xs, fs, rfl, ha, hb, hA, hG, h6, q⟩ := h
    refine ⟨_, pss_one (ps_for PassesOwn.never rfl (pi_enum (by rfl) me (pa_cons (pv 1) pa_nil)) (pg_tup rfl (pgs_cons (pg_name (i := 2) scCFig.nd rfl (.inl rfl)) (pgs_cons (pg_name (i := 3) scCFig.nd rfl (.inl rfl)) pgs_nil)))
        (pss_one (ps_if (pt_not (pt_val (pe_call GI hr (by rfl) gI FI.kp bI .nil pass0 (pa_cons (pv 0) (pa_cons (pv 3) pa_nil))))) (pss_one ps_never) pss_nil))), ?_⟩
    refine ⟨.ref b, rfl, b, _, rfl, hb, ?_⟩
    refine for_it (walk_enum (K := K) (a := b) (xs := xs)) (fun i σ H' => ∃ (y1 y2 : Option V), σ = [some (.ref a), some (.ref b), y1, y2] ∧ Same H H') ⟨none, none, rfl, Same.refl H⟩ (fun i σ H' _ hP => ?_) (fun i v σ H' H'' hi hP hY => ?_) (fun σ H' hP => ?_)
    · obtain ⟨_, _, _, sm⟩ := hP
      exact sm.seq hb
    · obtain ⟨y1, y2, rfl, sm⟩ := hP
      obtain ⟨T, x, y, rfl, nT, rfl, hx, hy⟩ := hY
      have u1 := same_upd (o := .tup [x, y]) nT
      have s1 := sm.trans u1
      obtain ⟨g, hg, hgT⟩ := hA.get hy
      have hgG := hG.all g (List.mem_of_getElem? hg)
      have hgl := hgG.len
      refine ⟨T, _, rfl, SqT.of upd_same, rfl, x, _, rfl, y, _, rfl, rfl, ?_⟩
      refine ⟨_, rfl, y, rfl, a, cs, y, g, rfl, same_any s1 ha, hgT.ts (TS.of s1), hgG, by omega, fun H2 s2 => ⟨_, rfl, iteF ⟨_, _, rfl, s1.trans s2⟩⟩⟩
    · obtain ⟨y1, y2, rfl, sm⟩ := hP
      exact q _ sm
end
def spCMeet (K : PySem.W.Frag) : Sp := fun vs H Q _ => ∃ (b : Addr) (cs : List Int) (xs : List V) (fs : List (List Tri)), vs = [.ref b] ∧ SqL K H b xs ∧ All2 (FigT K H) xs fs ∧ GoodB cs fs ∧ cs.length ≤ 6 ∧ fs.length ≤ 100 ∧ ∀ H', Same H H' → Q .non H'
abbrev sCMeet : Stmt := topS 43
abbrev nCMeet : List Str := ["figures", "masks", "one", "figure", "other"]
theorem scCMeet : FnScope nCMeet ["figures"] (defScope sCMeet) := ⟨rfl, rfl, rfl, by decide +kernel, rfl, by decide +kernel, by decide +kernel⟩
section
variable {P : Program} {w : World} {K : PySem.W.Frag} {mg : Str → Option Value} {base : Heap}
theorem ok_cmeet {f fM fB : Addr} {fd fdM fdB : FuncData} {k : Nat} (F : Fun K "check_meetings" "check_meetings" sCMeet f fd) (me : mg "enumerate" = none) (mr : mg "range" = none) (ml : mg "len" = none)
    (FM : Fun K "mask_of" "mask_of" sMask fM fdM) (bM : Binds K fdM ["figure"] []) (gM : mg "mask_of" = some (.ref fM)) (GM : FnOk P w K mg base CX0 k fM fdM ["figure"] (spMask K))
    (FB : Fun K "bar" "bar" sBar fB fdB) (bB : Binds K fdB ["one", "other"] []) (gB : mg "bar" = some (.ref fB)) (GB : FnOk P w K mg base CX0 k fB fdB ["one", "other"] (spBar K)) : FnOk P w K mg base CX0 (k + 1) f fd ["figures"] (spCMeet K) := by
  refine F.ok scCMeet (fun vs H Q E h => ?_) (fun cdv A outer s H vs Q E hr h => ?_)
  · obtain ⟨b, cs, xs, fs, rfl, _⟩ := h
    rfl
  · obtain ⟨b, cs, xs, fs, rfl, hb, hA, hG, h6, hfl, q⟩ := h
    refine ⟨_, pss_cons (ps_setLc (i := 1) (own := [("figure", 3)]) (g := gName 3) (tt := tYes) rfl scCMeet.nd rfl rfl (sw_true rfl rfl rfl (by decide +kernel)) (pi_list (pv 0)) (blkOk_by (own := [("figure", 3)]) (N := nCMeet) (sc := defScope sCMeet) (by decide +kernel)) (fun _ _ _ _ _ => pg_name (i := 3) scCMeet.nd rfl (.inl rfl)) (fun _ _ _ _ _ => pts_nil) (fun _ _ _ _ _ => pe_call GM hr (by rfl) gM FM.kp bM .nil pass0 (pa_cons (pv 3) pa_nil)))
      (pss_one (ps_for PassesOwn.never rfl (pi_enum (by rfl) me (pa_cons (pv 0) pa_nil)) (pg_tup (by rfl) (pgs_cons (pg_name (i := 2) scCMeet.nd rfl (.inl rfl)) (pgs_cons (pg_name (i := 3) scCMeet.nd rfl (.inl rfl)) pgs_nil))) (pss_one (ps_for PassesOwn.never rfl (pi_range2 (by rfl) mr (pa_cons (pe_op op_add (pv 2) pe_int) (pa_cons (pe_callB call_lenQ (by rfl) ml PySem.boot_len (pa_cons (pv 0) pa_nil)) pa_nil))) (pg_name (i := 4) scCMeet.nd rfl (.inl rfl)) (pss_one (ps_if (PW.pt (pw_and (pt_cmpR op_ne (pe_op op_and (pe_ix ix_list (pv 1) (pv 2) (fun _ _ => rfl)) (pe_ix ix_list (pv 1) (pv 4) (fun _ _ => rfl))) pe_int (nomark _)) (pw_and1 (pt_not (pt_val (pe_call GB hr (by rfl) gB FB.kp bB .nil pass0 (pa_cons (pv 3) (pa_cons (pe_ix ix_list (pv 0) (pv 4) (fun _ _ => rfl)) pa_nil)))))))) (pss_one ps_never) pss_nil)))))), ?_⟩
    have hxl := hA.len
    refine ⟨.ref b, rfl, b, rfl, ⟨_, hb⟩, fun D nD => ?_⟩
    refine lc_list (K := K) (a := b) (xs := xs) (fun i H' => Same H H' ∧ H' D = some (.lst ((fs.take i).map fun f => V.int (maskN f : Nat)))) ⟨same_upd nD, upd_same⟩ (fun i H' _ hP => hP.1.seq hb) (fun i x H' hx hP => ?_) (fun H0 hP => ?_)
    · obtain ⟨sm, hD⟩ := hP
      obtain ⟨g, hg, hgT⟩ := hA.get hx
      have hgG := hG.all g (List.mem_of_getElem? hg)
      have hgl := hgG.len
      refine ⟨rfl, yesT ⟨x, rfl, x, g, rfl, hgT.ts (TS.of sm), by omega, hgG.padsUp h6, fun H2 s2 => ⟨_, s2 _ _ hD, ?_, Same.offUpd (sm.trans s2) nD, ?_⟩⟩⟩
      · rw [List.length_map, List.length_take]
        exact small1000 (by omega)
      · rw [upd_same, take_snoc hg, List.map_append]
        rfl
    obtain ⟨s0, hD⟩ := hP
    rw [hxl, List.take_length] at hD
    have hmk : ∀ (i : Nat) (f : List Tri), fs[i]? = some f → atI (fs.map fun f => V.int (maskN f : Nat)) (i : Int) = some (.int (maskN f : Nat)) := fun i f e => atI_nat (by rw [List.getElem?_map, e]; rfl)
    refine ⟨.ref b, rfl, b, _, rfl, s0.seq hb, ?_⟩
    refine for_it (walk_enum (K := K) (a := b) (xs := xs)) (fun i σ H' => ∃ (y1 y2 y3 : Option V), σ = [some (.ref b), some (.ref D), y1, y2, y3] ∧ Same H0 H') ⟨none, none, none, rfl, Same.refl H0⟩ (fun i σ H' _ hP => ?_) (fun i v σ H' H'' hi hP hY => ?_) (fun σ H' hP => ?_)
    · obtain ⟨_, _, _, _, sm⟩ := hP
      exact (s0.trans sm).seq hb
    · obtain ⟨y1, y2, y3, rfl, sm⟩ := hP
      obtain ⟨T, x, y, rfl, nT, rfl, hx, hy⟩ := hY
      have u1 := same_upd (o := .tup [x, y]) nT
      have s1 := sm.trans u1
      have ex : x = .int (i : Nat) := (Option.some.inj hx).symm
      subst ex
      obtain ⟨g, hg, hgT⟩ := hA.get hy
      have hgG := hG.all g (List.mem_of_getElem? hg)
      have hgl := hgG.len
      refine ⟨T, _, rfl, SqT.of upd_same, rfl, _, _, rfl, y, _, rfl, rfl, ?_⟩
      generalize upd H' T (.tup [.int (i : Nat), y]) = H1 at s1 ⊢
      refine ⟨_, rfl, _, _, rfl, rfl, .ref b, rfl, b, _, rfl, .inl ((s0.trans s1).seq hb), (i : Int) + 1, ((xs.length : Nat) : Int), rfl, ⟨by omega, by omega, by omega, by omega⟩, ?_⟩
      refine for_range (lo := (i : Int) + 1) (n := (((xs.length : Nat) : Int) - ((i : Int) + 1)).toNat) (fun j σ H' => ∃ (y3 : Option V), σ = [some (.ref b), some (.ref D), some (.int (i : Nat)), some y, y3] ∧ Same H0 H') ⟨_, rfl, s1⟩ ?_ ?_
      · rintro j σ H2 hj ⟨y3, rfl, sm2⟩
        have hj2 : i + 1 + j < xs.length := by omega
        have ej : (i : Int) + 1 + (j : Int) = ((i + 1 + j : Nat) : Int) := by omega
        obtain ⟨g2, hg2, hgT2⟩ := hA.get (List.getElem?_eq_getElem hj2)
        have hgG2 := hG.all g2 (List.mem_of_getElem? hg2)
        have hgl2 := hgG2.len
        have hix : atI xs ((i : Int) + 1 + (j : Int)) = some xs[i + 1 + j] := by
          rw [ej]
          exact atI_nat (List.getElem?_eq_getElem hj2)
        have hm2 := hmk _ _ hg2
        rw [← ej] at hm2
        have hD2 := sm2 _ _ hD
        refine ⟨.ref D, rfl, .int (i : Nat), rfl, D, _, _, _, rfl, rfl, SqL.of hD2, hmk _ _ hg, .ref D, rfl, .int ((i : Int) + 1 + (j : Int)), rfl, D, _, _, _, rfl, rfl, SqL.of hD2, hm2, _, _, rfl, rfl, rfl, _, rfl, ?_⟩
        rw [mask_test (hgG.padsUp h6) (hgG2.padsUp h6)]
        have s02 := s0.trans sm2
        refine ite2 (fun e => ?_) (fun e => ?_)
        · refine ⟨y, rfl, .ref b, rfl, .int ((i : Int) + 1 + (j : Int)), rfl, b, xs, _, _, rfl, rfl, s02.seq hb, hix, y, _, g, g2, rfl, hgT.ts (TS.of s02), hgT2.ts (TS.of s02), by omega, by omega, fun H4 s4 => ⟨_, rfl, ?_⟩⟩
          rw [hG.pair (by omega) hg hg2 e]
          exact iteF ⟨_, rfl, sm2.trans s4⟩
        · exact iteF ⟨_, rfl, sm2⟩
      · rintro σ H2 ⟨y3, rfl, sm2⟩
        exact ⟨_, _, _, rfl, sm2⟩
    · obtain ⟨y1, y2, y3, rfl, sm⟩ := hP
      exact q _ (s0.trans sm)
end
def spCopyF (K : PySem.W.Frag) : Sp := fun vs H Q _ => ∃ (v : V) (f : List Tri), vs = [v] ∧ FigT K H v f ∧ f.length ≤ 100 ∧ ∀ H' u, Same H H' → FigT K H' u f → Q u H'
abbrev sCopyF : Stmt := topS 44
abbrev nCopyF : List Str := ["figure", "triple"]
theorem scCopyF : FnScope nCopyF ["figure"] (defScope sCopyF) := ⟨rfl, rfl, rfl, by decide +kernel, rfl, by decide +kernel, by decide +kernel⟩
section
variable {P : Program} {w : World} {K : PySem.W.Frag} {mg : Str → Option Value} {base : Heap}
theorem ok_copyf {f : Addr} {fd : FuncData} {k : Nat} (F : Fun K "copy_of_figure" "copy_of_figure" sCopyF f fd) (mt : mg "tuple" = none) : FnOk P w K mg base CX0 (k + 1) f fd ["figure"] (spCopyF K) := by
  refine F.ok scCopyF (fun vs H Q E h => ?_) (fun cdv A outer s H vs Q E hr h => ?_)
  · obtain ⟨v, f, rfl, _⟩ := h
    rfl
  · obtain ⟨v, f, rfl, hV, hfl, q⟩ := h
    obtain ⟨a, xs, rfl, ha, hxs⟩ := hV
    refine ⟨_, pss_one (ps_ret (pe_callTy call_tupS (by rfl) mt (by decide +kernel) (pa_cons (pe_lc (own := [("triple", 1)]) (g := gName 1) (tt := tYes) rfl scCopyF.nd (pi_tup (pv 0))
        (blkOk_by (own := [("triple", 1)]) (N := nCopyF) (sc := defScope sCopyF) (by decide +kernel)) (fun _ _ _ _ _ => pg_name (i := 1) scCopyF.nd rfl (.inl rfl)) (fun _ _ _ _ _ => pts_nil)
        (fun _ _ _ _ _ => pe_callTy (r := rTupS K) call_tupS (by rfl) mt (by decide +kernel) (pa_cons (pv 1) pa_nil))) pa_nil))), ?_⟩
    refine ⟨.ref a, rfl, a, rfl, ⟨_, ha⟩, fun D nD => ?_⟩
    refine lc_tup (K := K) (a := a) (xs := xs) (fun i H' => Same H H' ∧ ∃ zs, H' D = some (.lst zs) ∧ All2 (TriAt K H') zs (f.take i)) ⟨same_upd nD, [], upd_same, True.intro⟩ (fun i H' _ hP => Same.tup hP.1 ha) (fun i x H' hx hP => ?_) (fun H1 hP => ?_)
    · obtain ⟨sm, zs, hD, hz⟩ := hP
      obtain ⟨t, ht, tp, rfl, htp⟩ := hxs.get hx
      refine ⟨rfl, yesT ⟨.ref tp, rfl, tp, _, rfl, .inr (Same.tup sm htp), fun l H2 s2 hl => ?_⟩⟩
      have hD2 := s2 _ _ hD
      refine ⟨_, hD2, ?_, Same.offUpd (sm.trans s2) nD, zs ++ [.ref l], upd_same, ?_⟩
      · rw [hz.len, List.length_take]
        exact small1000 (by omega)
      · rw [take_snoc ht]
        exact All2.snoc ⟨l, rfl, TS.upd hD2 _ _ hl⟩ (hz.mono fun _ _ => TriAt.ts ((TS.of s2).trans (TS.upd hD2)))
    · obtain ⟨sm, zs, hD, hz⟩ := hP
      rw [hxs.len, List.take_length] at hz
      refine ⟨D, _, rfl, .inl (SqL.of hD), fun l H2 s2 hl => ?_⟩
      exact q _ _ (sm.trans s2) ⟨l, zs, rfl, hl, hz.mono fun _ _ => TriAt.ts (TS.of s2)⟩
end
/-! ### Book.__init__ -/
def bkF (a b : Addr) : List (Str × V) := [("palette", .ref a), ("shapes", .ref b)]
def BookAt (K : PySem.W.Frag) (C : Addr) (H : Hp) (p : Addr) (cs : List Int) (fs : List (List Tri)) : Prop :=
  ∃ (dx a b : Addr) (xs : List V), H p = some (.ins C dx (bkF a b)) ∧ SqT K H a (cs.map V.int) ∧ SqT K H b xs ∧ All2 (FigT K H) xs fs
theorem BookAt.same {K : PySem.W.Frag} {C : Addr} {H H' : Hp} {p : Addr} {cs : List Int} {fs : List (List Tri)} (h : BookAt K C H p cs fs) (e : Same H H') : BookAt K C H' p cs fs := by
  obtain ⟨dx, a, b, xs, h1, h2, h3, h4⟩ := h
  exact ⟨dx, a, b, xs, e _ _ h1, Same.tup e h2, Same.tup e h3, h4.mono fun _ _ => FigT.ts (TS.of e)⟩
structure BkTxt (K : PySem.W.Frag) (mg : Str → Option Value) (C : Addr) : Prop where
  cl : Cls K C
  nP : NoAttr K C "palette"
  nS : NoAttr K C "shapes"
  mgC : mg "Book" = some (.ref C)
def spInit (K : PySem.W.Frag) (C : Addr) : Sp := fun vs H Q _ => ∃ (p dx a b : Addr) (cs : List Int) (xs : List V) (fs : List (List Tri)), vs = [.ref p, .ref a, .ref b] ∧ H p = some (.ins C dx []) ∧ SqL K H a (cs.map V.int) ∧ SqL K H b xs ∧ All2 (FigT K H) xs fs ∧ GoodC cs ∧ GoodB cs fs ∧ fs.length ≤ 12 ∧
  ∀ H', Off p H H' → BookAt K C H' p cs fs → Q .non H'
abbrev sInit : Stmt := inClass (topS 38) 0
abbrev nInit : List Str := ["self", "colours", "figures", "figure"]
theorem scInit : FnScope nInit ["self", "colours", "figures"] (defScope sInit) := ⟨rfl, rfl, rfl, by decide +kernel, rfl, by decide +kernel, by decide +kernel⟩
theorem TS.ins {K : PySem.W.Frag} {H H' : Hp} {p C dx : Addr} {fs : List (Str × V)} (e : Off p H H') (h : H p = some (.ins C dx fs)) : TS K H H' := fun a xs q => by
  rcases q with (q | ⟨o, q⟩) | q
  · exact .inl (.inl (e _ _ (fun z => by rw [z, h] at q; cases q) q))
  · exact .inl (.inr ⟨o, e _ _ (fun z => by rw [z, h] at q; cases q) q⟩)
  · exact .inr q
theorem seqL_off {K : PySem.W.Frag} {H H' : Hp} {p C dx b : Addr} {fs : List (Str × V)} {xs : List V} (e : Off p H H') (h : H p = some (.ins C dx fs)) (q : SqL K H b xs) : SqL K H' b xs := by
  rcases q with (q | ⟨o, q⟩) | q
  · exact .inl (.inl (e _ _ (fun z => by rw [z, h] at q; cases q) q))
  · exact .inl (.inr ⟨o, e _ _ (fun z => by rw [z, h] at q; cases q) q⟩)
  · exact .inr q
section
variable {P : Program} {w : World} {K : PySem.W.Frag} {mg : Str → Option Value} {base : Heap}
theorem ok_init {f C f1 f2 f3 f4 : Addr} {fd fd1 fd2 fd3 fd4 : FuncData} {k : Nat} {tkF : Tok} {kws : List (Str × V)} (F : FunD K "__init__" "Book.__init__" (defArgs sInit) (defBody sInit) (defScope sInit) [] kws f fd) (T : BkTxt K mg C)
    (ml : mg "len" = none) (mt : mg "tuple" = none) (mF : mg "MOST_FIGURES" = some (.int 12 tkF))
    (F1 : Fun K "check_colours" "check_colours" sCCol f1 fd1) (b1 : Binds K fd1 ["colours"] []) (g1 : mg "check_colours" = some (.ref f1)) (G1 : FnOk P w K mg base CX0 k f1 fd1 ["colours"] (spCCol K))
    (F2 : Fun K "check_figures" "check_figures" sCFig f2 fd2) (b2 : Binds K fd2 ["colours", "figures"] []) (g2 : mg "check_figures" = some (.ref f2)) (G2 : FnOk P w K mg base CX0 k f2 fd2 ["colours", "figures"] (spCFig K))
    (F3 : Fun K "check_meetings" "check_meetings" sCMeet f3 fd3) (b3 : Binds K fd3 ["figures"] []) (g3 : mg "check_meetings" = some (.ref f3)) (G3 : FnOk P w K mg base CX0 k f3 fd3 ["figures"] (spCMeet K))
    (F4 : Fun K "copy_of_figure" "copy_of_figure" sCopyF f4 fd4) (b4 : Binds K fd4 ["figure"] []) (g4 : mg "copy_of_figure" = some (.ref f4)) (G4 : FnOk P w K mg base CX0 k f4 fd4 ["figure"] (spCopyF K)) :
    FnOk P w K mg base CX0 (k + 1) f fd ["self", "colours", "figures"] (spInit K C) := by
  refine F.ok (CX := CX0) scInit (fun vs H Q E h => ?_) (fun cdv A outer s H vs Q E hr h => ?_)
  · obtain ⟨p, dx, a, b, cs, xs, fs, rfl, _⟩ := h
    rfl
  · obtain ⟨p, dx, a, b, cs, xs, fs, rfl, hp, ha, hb, hA, hC, hG, h12, q⟩ := h
    refine ⟨_, PSs.nox (pss_cons (ps_expr (pe_call G1 hr (by rfl) g1 F1.kp b1 .nil pass0 (pa_cons (pv 1) pa_nil)))
      (pss_cons (ps_if (pt_cmpR op_gt (pe_callB call_lenQ (by rfl) ml PySem.boot_len (pa_cons (pv 2) pa_nil)) (pe_glob (v := .int 12) (by rfl) mF ⟨_, rfl⟩) (nomark _)) (pss_one ps_never) pss_nil)
      (pss_cons (ps_expr (pe_call G2 hr (by rfl) g2 F2.kp b2 .nil pass0 (pa_cons (pv 1) (pa_cons (pv 2) pa_nil))))
      (pss_cons (ps_expr (pe_call G3 hr (by rfl) g3 F3.kp b3 .nil pass0 (pa_cons (pv 2) pa_nil)))
      (pss_cons (ps_fld (pv 0) (pe_callTy call_tupS (by rfl) mt (by decide +kernel) (pa_cons (pv 1) pa_nil)) rfl)
      (pss_one (ps_fld (pv 0) (pe_callTy call_tupS (by rfl) mt (by decide +kernel) (pa_cons (pe_lc (own := [("figure", 3)]) (g := gName 3) (tt := tYes) rfl scInit.nd (pi_list (pv 2))
        (blkOk_by (own := [("figure", 3)]) (N := nInit) (sc := defScope sInit) (by decide +kernel)) (fun _ _ _ _ _ => pg_name (i := 3) scInit.nd rfl (.inl rfl)) (fun _ _ _ _ _ => pts_nil)
        (fun _ _ _ _ _ => pe_call G4 hr (by rfl) g4 F4.kp b4 .nil pass0 (pa_cons (pv 3) pa_nil))) pa_nil)) rfl))))))), ?_⟩
    have hxl := hA.len
    refine ⟨.ref a, rfl, a, cs, rfl, ha, hC, fun H1 s1 => ?_⟩
    refine ⟨.ref b, rfl, b, _, rfl, .inl (s1.seq hb), _, 12, rfl, rfl, _, rfl, ?_⟩
    rw [decide_eq_false (show ¬ (12 : Int) < ((xs.length : Nat) : Int) by omega)]
    refine iteF ?_
    refine ⟨.ref a, rfl, .ref b, rfl, a, b, cs, xs, fs, rfl, .inl (s1.seq ha), s1.seq hb, hA.mono fun _ _ => FigT.ts (TS.of s1), hG, hC.2.1, fun H2 s2 => ?_⟩
    have s12 := s1.trans s2
    refine ⟨.ref b, rfl, b, cs, xs, fs, rfl, s12.seq hb, hA.mono fun _ _ => FigT.ts (TS.of s12), hG, hC.2.1, by omega, fun H3 s3 => ?_⟩
    have s13 := s12.trans s3
    refine ⟨.ref a, rfl, a, _, rfl, .inl (s13.seq ha), fun a2 H4 s4 ha2 => ?_⟩
    have s14 := s13.trans s4
    have hp4 := s14 _ _ hp
    refine ⟨.ref p, rfl, p, C, dx, [], rfl, hp4, T.cl, T.nP, (show 0 < 1000 by decide), ?_⟩
    have off5 : Off p H4 (upd H4 p (.ins C dx (putF "palette" (.ref a2) []))) := Off.upd
    have hp5 : (upd H4 p (.ins C dx (putF "palette" (.ref a2) []))) p = some (.ins C dx [("palette", .ref a2)]) := upd_same
    have hb5 := seqL_off off5 hp4 (s14.seq hb)
    have ts5 : TS K H (upd H4 p (.ins C dx (putF "palette" (.ref a2) []))) := (TS.of s14).trans (TS.ins off5 hp4)
    have ha5 : SqT K (upd H4 p (.ins C dx (putF "palette" (.ref a2) []))) a2 (cs.map V.int) := TS.ins off5 hp4 _ _ ha2
    have off15 : Off p H (upd H4 p (.ins C dx (putF "palette" (.ref a2) []))) := (Off.same s14).trans off5
    generalize upd H4 p (.ins C dx (putF "palette" (.ref a2) [])) = H5 at off5 hp5 hb5 ts5 ha5 off15 ⊢
    have hA5 := hA.mono fun _ _ => FigT.ts ts5
    refine ⟨.ref b, rfl, b, rfl, ⟨_, hb5⟩, fun D nD => ?_⟩
    refine lc_list (K := K) (a := b) (xs := xs) (fun i H' => Same H5 H' ∧ ∃ zs, H' D = some (.lst zs) ∧ All2 (FigT K H') zs (fs.take i)) ⟨same_upd nD, [], upd_same, True.intro⟩ (fun i H' _ hP => hP.1.seq hb5) (fun i x H' hx hP => ?_) (fun H6 hP => ?_)
    · obtain ⟨sm, zs, hD, hz⟩ := hP
      obtain ⟨g, hg, hgT⟩ := hA5.get hx
      have hgl := (hG.all g (List.mem_of_getElem? hg)).len
      have := hC.2.1
      refine ⟨rfl, yesT ⟨x, rfl, x, g, rfl, hgT.ts (TS.of sm), by omega, fun H7 u s7 hu => ?_⟩⟩
      have hD7 := s7 _ _ hD
      refine ⟨_, hD7, ?_, Same.offUpd (sm.trans s7) nD, zs ++ [u], upd_same, ?_⟩
      · rw [hz.len, List.length_take]
        exact small1000 (by omega)
      · rw [take_snoc hg]
        exact All2.snoc (hu.ts (TS.upd hD7)) (hz.mono fun _ _ => FigT.ts ((TS.of s7).trans (TS.upd hD7)))
    · obtain ⟨sm, zs, hD, hz⟩ := hP
      rw [hxl, List.take_length] at hz
      refine ⟨D, _, rfl, .inl (SqL.of hD), fun l H7 s7 hl => ?_⟩
      have s57 := sm.trans s7
      have hp7 := s57 _ _ hp5
      refine ⟨.ref p, rfl, p, C, dx, _, rfl, hp7, T.cl, T.nS, (show 1 < 1000 by decide), ?_⟩
      have off8 : Off p H7 (upd H7 p (.ins C dx (putF "shapes" (.ref l) [("palette", .ref a2)]))) := Off.upd
      refine q _ ((off15.trans (Off.same s57)).trans off8) ⟨dx, a2, l, zs, upd_same, ?_, TS.ins off8 hp7 _ _ hl, hz.mono fun _ _ => FigT.ts ((TS.of s7).trans (TS.ins off8 hp7))⟩
      exact TS.ins off8 hp7 _ _ (Same.tup s57 ha5)
end
/-! ### figures as they are handed in: tuples of any lengths -/
def TupZ (K : PySem.W.Frag) (H : Hp) (v : V) (t : List Int) : Prop := ∃ a, v = .ref a ∧ SqT K H a (t.map V.int)
theorem TupZ.ts {K : PySem.W.Frag} {H H' : Hp} (e : TS K H H') {v : V} {t : List Int} (h : TupZ K H v t) : TupZ K H' v t := by
  obtain ⟨a, h1, h2⟩ := h
  exact ⟨a, h1, e _ _ h2⟩
abbrev RF := List (List Int)
def RFigT (K : PySem.W.Frag) (H : Hp) (v : V) (f : RF) : Prop := ∃ a xs, v = .ref a ∧ SqT K H a xs ∧ All2 (TupZ K H) xs f
theorem RFigT.ts {K : PySem.W.Frag} {H H' : Hp} (e : TS K H H') {v : V} {f : RF} (h : RFigT K H v f) : RFigT K H' v f := by
  obtain ⟨a, xs, h1, h2, h3⟩ := h
  exact ⟨a, xs, h1, e _ _ h2, h3.mono fun _ _ => TupZ.ts e⟩
def RFigL (K : PySem.W.Frag) (H : Hp) (v : V) (f : RF) : Prop := ∃ a xs, v = .ref a ∧ SqL K H a xs ∧ All2 (TupZ K H) xs f
theorem RFigL.same {K : PySem.W.Frag} {H H' : Hp} (e : Same H H') {v : V} {f : RF} (h : RFigL K H v f) : RFigL K H' v f := by
  obtain ⟨a, xs, h1, h2, h3⟩ := h
  exact ⟨a, xs, h1, e.seq h2, h3.mono fun _ _ => TupZ.ts (TS.of e)⟩
/-- a list of good triples -/
def FigL (K : PySem.W.Frag) (H : Hp) (v : V) (f : List Tri) : Prop := ∃ a xs, v = .ref a ∧ SqL K H a xs ∧ All2 (TriAt K H) xs f
theorem FigL.same {K : PySem.W.Frag} {H H' : Hp} (e : Same H H') {v : V} {f : List Tri} (h : FigL K H v f) : FigL K H' v f := by
  obtain ⟨a, xs, h1, h2, h3⟩ := h
  exact ⟨a, xs, h1, e.seq h2, h3.mono fun _ _ => TriAt.ts (TS.of e)⟩
def triB (cs : List Int) : List Int → Bool
  | [p, n, d] => decide (0 ≤ p) && (decide (p < cs.length) && (decide (0 ≤ n) && (decide (n < cs.getD p.toNat 0) && (decide (1 ≤ d) && decide (d ≤ 3)))))
  | _ => false
def toTri : List Int → Tri
  | [p, n, d] => (p, n, d)
  | _ => (0, 0, 0)
theorem triB_ok {cs t : List Int} (h : triB cs t = true) : ∃ p n d, t = [p, n, d] ∧ GoodT cs (p, n, d) := by
  unfold triB at h
  split at h
  · rename_i p n d
    simp only [Bool.and_eq_true, decide_eq_true_eq] at h
    obtain ⟨h1, h2, h3, h4, h5, h6⟩ := h
    exact ⟨p, n, d, rfl, h1, h2, h3, h4, h5, h6⟩
  · cases h
def risesFrom (last : Int) : List Int → Bool
  | [] => true
  | p :: r => decide (last < p) && risesFrom p r
/-- good triples whose pads rise, above last -/
def wellGo (cs : List Int) (last : Int) : RF → Bool
  | [] => true
  | t :: r => triB cs t && (decide (last < (toTri t).1) && wellGo cs (toTri t).1 r)
def figB (cs : List Int) (f : RF) : Bool := decide (f ≠ []) && wellGo cs (-1) f
theorem wellGo_eq (cs : List Int) : ∀ (f : RF) (last : Int), wellGo cs last f = (f.all (triB cs) && risesFrom last (f.map fun t => (toTri t).1))
  | [], _ => rfl
  | t :: r, last => by
    unfold wellGo
    rw [wellGo_eq cs r, List.all_cons, List.map_cons]
    show _ = (triB cs t && r.all (triB cs) && (decide (last < (toTri t).1) && risesFrom (toTri t).1 (r.map fun t => (toTri t).1)))
    cases triB cs t <;> cases r.all (triB cs) <;> cases decide (last < (toTri t).1) <;> cases risesFrom (toTri t).1 (r.map fun t => (toTri t).1) <;> rfl
theorem rises_pair : ∀ (l : List Int) (last : Int), risesFrom last l = true → (last :: l).Pairwise (· < ·)
  | [], _, _ => List.pairwise_singleton _ _
  | p :: r, last, h => by
    obtain ⟨h1, h2⟩ := Bool.and_eq_true_iff.mp (show (decide (last < p) && risesFrom p r) = true from h)
    have h3 := rises_pair r p h2
    have h4 := of_decide_eq_true h1
    refine List.pairwise_cons.mpr ⟨fun x hx => ?_, h3⟩
    rcases List.mem_cons.mp hx with rfl | hx
    · exact h4
    · exact Int.lt_trans h4 ((List.pairwise_cons.mp h3).1 x hx)
theorem figB_good {cs : List Int} {f : RF} (h : figB cs f = true) : GoodF cs (f.map toTri) ∧ ∀ t ∈ f, ∃ p n d, t = [p, n, d] := by
  obtain ⟨h1, h2⟩ := Bool.and_eq_true_iff.mp h
  rw [wellGo_eq] at h2
  obtain ⟨h3, h4⟩ := Bool.and_eq_true_iff.mp h2
  have a := List.all_eq_true.mp h3
  refine ⟨⟨fun z => of_decide_eq_true h1 (List.map_eq_nil_iff.mp z), fun u hu => ?_, ?_⟩, fun t ht => ?_⟩
  · obtain ⟨t, ht, rfl⟩ := List.mem_map.mp hu
    obtain ⟨p, n, d, rfl, g⟩ := triB_ok (a t ht)
    exact g
  · rw [List.map_map]
    exact (List.pairwise_cons.mp (rises_pair _ _ h4)).2
  · obtain ⟨p, n, d, e, _⟩ := triB_ok (a t ht)
    exact ⟨p, n, d, e⟩
theorem tris_of {K : PySem.W.Frag} {H : Hp} : ∀ {xs : List V} {f : RF}, All2 (TupZ K H) xs f → (∀ t ∈ f, ∃ p n d, t = [p, n, d]) → All2 (TriAt K H) xs (f.map toTri)
  | [], [], _, _ => True.intro
  | x :: xs, t :: f, h, g => by
    obtain ⟨p, n, d, rfl⟩ := g t (List.mem_cons_self ..)
    obtain ⟨a, e, ha⟩ := h.1
    exact ⟨⟨a, e, ha⟩, tris_of h.2 fun t ht => g t (List.mem_cons_of_mem _ ht)⟩
  | [], _ :: _, h, _ => h.elim
  | _ :: _, [], h, _ => h.elim
/-! the first that is not so -/
def FirstNo {α : Type} (p : α → Prop) (l : List α) (i : Nat) : Prop := (∃ x, l[i]? = some x ∧ ¬ p x) ∧ ∀ (j : Nat) (x : α), j < i → l[j]? = some x → p x
theorem FirstNo.uniq {α : Type} {p : α → Prop} {l : List α} {i j : Nat} (h : FirstNo p l i) (g : FirstNo p l j) : i = j := by
  obtain ⟨⟨x, x1, x2⟩, x3⟩ := h
  obtain ⟨⟨y, y1, y2⟩, y3⟩ := g
  rcases Nat.lt_trichotomy i j with z | z | z
  · exact absurd (y3 i x z x1) x2
  · exact z
  · exact absurd (x3 j y z y1) y2
theorem FirstNo.not {α : Type} {p : α → Prop} {l : List α} {i : Nat} (h : FirstNo p l i) (g : ∀ x ∈ l, p x) : False := by
  obtain ⟨⟨x, x1, x2⟩, _⟩ := h
  exact x2 (g x (List.mem_of_getElem? x1))
def mtB (fs : List RF) (i j : Nat) : Bool := okB ((fs.getD i []).map toTri) ((fs.getD j []).map toTri)
/-- the first two that meet and do not bar -/
def FirstM (fs : List RF) (i j : Nat) : Prop := (i < j ∧ j < fs.length ∧ mtB fs i j = false) ∧ ∀ i' j', i' < j' → j' < fs.length → (i' < i ∨ (i' = i ∧ j' < j)) → mtB fs i' j' = true
theorem FirstM.uniq {fs : List RF} {i j i' j' : Nat} (h : FirstM fs i j) (g : FirstM fs i' j') : i = i' ∧ j = j' := by
  obtain ⟨⟨h1, h2, h3⟩, h4⟩ := h
  obtain ⟨⟨g1, g2, g3⟩, g4⟩ := g
  have a : ¬ (i < i' ∨ (i = i' ∧ j < j')) := fun z => by
    have := g4 i j h1 h2 z
    rw [h3] at this
    cases this
  have b : ¬ (i' < i ∨ (i' = i ∧ j' < j)) := fun z => by
    have := h4 i' j' g1 g2 z
    rw [g3] at this
    cases this
  omega
def NoneM (fs : List RF) : Prop := ∀ i j, i < j → j < fs.length → mtB fs i j = true
theorem FirstM.not {fs : List RF} {i j : Nat} (h : FirstM fs i j) (g : NoneM fs) : False := by
  obtain ⟨⟨h1, h2, h3⟩, _⟩ := h
  have := g i j h1 h2
  rw [h3] at this
  cases this
abbrev colOk (x : Int) : Prop := 1 ≤ x ∧ x ≤ 4
/-- what is due of a book: none, or the refusal's number and values -/
inductive DueR (cs : List Int) (fs : List RF) : Option (Nat × List Int) → Prop
  | many (h : ¬ (1 ≤ cs.length ∧ cs.length ≤ 6)) : DueR cs fs (some (0, [-1]))
  | col (i : Nat) (h : 1 ≤ cs.length ∧ cs.length ≤ 6) (g : FirstNo colOk cs i) : DueR cs fs (some (0, [(i : Int)]))
  | figs (h : GoodC cs) (g : 12 < fs.length) : DueR cs fs (some (3, [12]))
  | fig (i : Nat) (h : GoodC cs) (g : fs.length ≤ 12) (e : FirstNo (fun f => figB cs f = true) fs i) : DueR cs fs (some (1, [(i : Int)]))
  | meet (i j : Nat) (h : GoodC cs) (g : fs.length ≤ 12) (e : ∀ f ∈ fs, figB cs f = true) (m : FirstM fs i j) : DueR cs fs (some (2, [(i : Int), (j : Int)]))
  | none (h : GoodC cs) (g : fs.length ≤ 12) (e : ∀ f ∈ fs, figB cs f = true) (m : NoneM fs) : DueR cs fs Option.none
theorem DueR.uniq {cs : List Int} {fs : List RF} {o o' : Option (Nat × List Int)} (h : DueR cs fs o) (g : DueR cs fs o') : o = o' := by
  have nc : ∀ {i}, FirstNo colOk cs i → GoodC cs → False := fun f c => f.not c.2.2
  cases h with
  | many h =>
    cases g with
    | many => rfl
    | col i h' => exact absurd h' h
    | figs c => exact absurd ⟨c.1, c.2.1⟩ h
    | fig i c => exact absurd ⟨c.1, c.2.1⟩ h
    | meet i j c => exact absurd ⟨c.1, c.2.1⟩ h
    | none c => exact absurd ⟨c.1, c.2.1⟩ h
  | col i h f =>
    cases g with
    | many h' => exact absurd h h'
    | col j h' f' => rw [f.uniq f']
    | figs c => exact (nc f c).elim
    | fig j c => exact (nc f c).elim
    | meet j k c => exact (nc f c).elim
    | none c => exact (nc f c).elim
  | figs c n =>
    cases g with
    | many h' => exact absurd ⟨c.1, c.2.1⟩ h'
    | col j h' f' => exact (nc f' c).elim
    | figs => rfl
    | fig j c' n' => omega
    | meet j k c' n' => omega
    | none c' n' => omega
  | fig i c n f =>
    cases g with
    | many h' => exact absurd ⟨c.1, c.2.1⟩ h'
    | col j h' f' => exact (nc f' c).elim
    | figs c' n' => omega
    | fig j c' n' f' => rw [f.uniq f']
    | meet j k c' n' e' => exact (f.not e').elim
    | none c' n' e' => exact (f.not e').elim
  | meet i j c n e m =>
    cases g with
    | many h' => exact absurd ⟨c.1, c.2.1⟩ h'
    | col j h' f' => exact (nc f' c).elim
    | figs c' n' => omega
    | fig j c' n' f' => exact (f'.not e).elim
    | meet i' j' c' n' e' m' =>
      obtain ⟨rfl, rfl⟩ := m.uniq m'
      rfl
    | none c' n' e' m' => exact (m.not m').elim
  | none c n e m =>
    cases g with
    | many h' => exact absurd ⟨c.1, c.2.1⟩ h'
    | col j h' f' => exact (nc f' c).elim
    | figs c' n' => omega
    | fig j c' n' f' => exact (f'.not e).elim
    | meet i' j' c' n' e' m' => exact (m'.not m).elim
    | none => rfl
theorem DueR.shape {cs : List Int} {fs : List RF} {i : Nat} {ws : List Int} (h : DueR cs fs (some (i, ws))) : i < 28 ∧ ws.length = (rFl i).length ∧ rNm i ≠ "told" := by
  cases h <;> exact ⟨by decide, rfl, by decide +kernel⟩
theorem same_ref {H H2 : Hp} {d : Addr} (h1 : H d = none) (h2 : ∀ b, b ≠ d → H b ≠ none → H2 b = H b) : Same H H2 := fun b o e => by
  rw [h2 b (ne_of_none e h1) (by rw [e]; simp)]
  exact e
/-- the refusal i with these numbers -/
def refuseN (i : Nat) (C : Addr) (ws : List Int) (H : Hp) (E : XK) : Prop := ∀ (d : Addr) (H' : Hp), Same H H' → H' d = some (.xd (rFs i (ws.map V.int))) → E (.ref C) (some d) H'
theorem refuseN.later {i : Nat} {C : Addr} {ws : List Int} {H H1 : Hp} {E : XK} (h : refuseN i C ws H E) (s : Same H H1) : refuseN i C ws H1 E := fun d H' s' hd => h d H' (s.trans s') hd
abbrev exc1 (i : Nat) (nm fl : Str) (C : Addr) (P : Program) (w : World) (K : PySem.W.Frag) (mg : Str → Option Value) (base : Heap) (k : Nat) : Prop := ExcK P w K mg base k nm C 1 (fun ws => [(fl, ws.getD 0 .non), ("word", .str nm)])
/-! ### Book.pads; Book.shape with its refusal; Book.meet with it -/
theorem bkF_shapesX (a b : Addr) : List.lookup (Str.ofString "shapes") (bkF a b) = some (V.ref b) := rfl
abbrev sPadsM : Stmt := inClass (topS 38) 2
theorem scPadsM : FnScope ["self"] ["self"] (defScope sPadsM) := ⟨rfl, rfl, rfl, by decide +kernel, rfl, by decide +kernel, by decide +kernel⟩
def spPadsM (K : PySem.W.Frag) (C : Addr) : Sp := fun vs H Q _ => ∃ (p : Addr) (cs : List Int) (fs : List (List Tri)), vs = [.ref p] ∧ BookAt K C H p cs fs ∧ Q (.int (cs.length : Nat)) H
abbrev sShpX : Stmt := inClass (topS 38) 4
abbrev nShpX : List Str := ["self", "at"]
theorem scShpX : FnScope nShpX ["self", "at"] (defScope sShpX) := ⟨rfl, rfl, rfl, by decide +kernel, rfl, by decide +kernel, by decide +kernel⟩
/-- NoFigure is the refusal 24 -/
def spShpX (K : PySem.W.Frag) (C CN : Addr) : Sp := fun vs H Q E => ∃ (p : Addr) (cs : List Int) (fs : List (List Tri)) (z : Int), vs = [.ref p, .int z] ∧ BookAt K C H p cs fs ∧ (∀ i : Nat, z = (i : Int) → i < fs.length → ∀ v, FigT K H v (fs.getD i []) → Q v H) ∧ (¬ (0 ≤ z ∧ z < (fs.length : Nat)) → refuseN 24 CN [z] H E)
section
variable {P : Program} {w : World} {K : PySem.W.Frag} {mg : Str → Option Value} {base : Heap}
theorem ok_padsM {f C : Addr} {fd : FuncData} {k : Nat} (F : Fun K "pads" "Book.pads" sPadsM f fd) (T : BkTxt K mg C) (ml : mg "len" = none) : FnOk P w K mg base CX0 (k + 1) f fd ["self"] (spPadsM K C) := by
  refine F.ok scPadsM (fun vs H Q E h => ?_) (fun cdv A outer s H vs Q E hr h => ?_)
  · obtain ⟨p, cs, fs, rfl, _⟩ := h
    rfl
  · obtain ⟨p, cs, fs, rfl, ⟨dx, a, b, xs, hp, ha, hb, hA⟩, q⟩ := h
    refine ⟨_, pss_one (ps_ret (pe_callB call_lenQ (by rfl) ml PySem.boot_len (pa_cons (pe_fld (pv 0) rfl) pa_nil))), ?_⟩
    refine ⟨.ref p, rfl, p, C, dx, _, _, rfl, hp, T.cl, T.nP, rfl, a, _, rfl, .inr ha, ?_⟩
    rw [List.length_map]
    exact q
theorem ok_shpX {f C CN : Addr} {fd : FuncData} {k : Nat} (F : Fun K "shape" "Book.shape" sShpX f fd) (T : BkTxt K mg C) (ml : mg "len" = none) (R : exc1 24 "NoFigure" "figure" CN P w K mg base k) : FnOk P w K mg base (L2.CX P w) (k + 2) f fd ["self", "at"] (spShpX K C CN) := by
  refine F.okX scShpX (fun vs H Q E h => ?_) (fun cdv A outer s H vs Q E hr h => ?_)
  · obtain ⟨p, cs, fs, z, rfl, _⟩ := h
    rfl
  · obtain ⟨p, cs, fs, z, rfl, ⟨dx, a, b, xs, hp, ha, hb, hA⟩, q, q1⟩ := h
    refine ⟨_, pss_cons (ps_if (pt_not (pt_chain op_le op_lt pe_int (pv 1) (pe_callB call_lenQ (by rfl) ml PySem.boot_len (pa_cons (pe_fld (pv 0) rfl) pa_nil)))) (pss_one (ps_raise rfl (takes_of rfl rfl rfl rfl) (pmk_ref R hr (by rfl) (pa_cons (pv 1) pa_nil)))) pss_nil)
      (pss_one (ps_ret (pe_ix ix_tup (pe_fld (pv 0) rfl) (pv 1) (fun _ _ => rfl)))), ?_⟩
    have hxl := hA.len
    have bad : ¬ (0 ≤ z ∧ z < (fs.length : Nat)) → ∀ σ : L2.St, σ[1]? = some (some (.int z)) → tRef CN 1 (fun ws => [("figure", ws.getD 0 .non), ("word", .str "NoFigure")]) (tCons (tVar 1) tNil) σ H fun cls d H' => E cls d H' := fun e σ hσ =>
      ⟨.int z, hσ, rfl, (show (1 : Nat) ≤ 1000 by decide), fun dd H2 h1 h2 h3 => q1 e dd H2 (same_ref h1 h2) h3⟩
    refine ⟨.int z, rfl, 0, z, rfl, rfl, _, rfl, ?_⟩
    by_cases e0 : 0 ≤ z
    rotate_left
    · rw [decide_eq_false e0]
      exact iteF ⟨_, rfl, iteT (bad (fun y => e0 y.1) _ rfl)⟩
    rw [decide_eq_true e0]
    refine iteT ⟨.ref p, rfl, p, C, dx, _, _, rfl, hp, T.cl, T.nS, bkF_shapesX a b, b, _, rfl, .inr hb, z, _, rfl, rfl, _, rfl, ?_⟩
    by_cases e1 : z < ((xs.length : Nat) : Int)
    rotate_left
    · rw [decide_eq_false e1]
      exact iteT (bad (fun y => e1 (by rw [hxl]; exact y.2)) _ rfl)
    rw [decide_eq_true e1]
    obtain ⟨i, rfl⟩ : ∃ i : Nat, z = (i : Int) := ⟨z.toNat, by omega⟩
    have hi2 : i < xs.length := by omega
    obtain ⟨g, hg, hgT⟩ := hA.get (List.getElem?_eq_getElem hi2)
    refine iteF ⟨.ref p, rfl, p, C, dx, _, _, rfl, hp, T.cl, T.nS, bkF_shapesX a b, .int (i : Nat), rfl, b, xs, _, xs[i], rfl, rfl, hb, atI_nat (List.getElem?_eq_getElem hi2), ?_⟩
    refine q i rfl (by omega) _ ?_
    rw [List.getD_eq_getElem?_getD, hg]
    exact hgT
end
theorem getD_len100 {fs : List (List Tri)} (h : ∀ f ∈ fs, f.length ≤ 100) (i : Nat) : (fs.getD i []).length ≤ 100 := by
  rw [List.getD_eq_getElem?_getD]
  cases e : fs[i]? with
  | none => exact Nat.zero_le _
  | some f => exact h f (List.mem_of_getElem? e)
abbrev sMeetX : Stmt := inClass (topS 38) 5
abbrev nMeetX : List Str := ["self", "one", "other"]
theorem scMeetX : FnScope nMeetX ["self", "one", "other"] (defScope sMeetX) := ⟨rfl, rfl, rfl, by decide +kernel, rfl, by decide +kernel, by decide +kernel⟩
def spMeetX (K : PySem.W.Frag) (C CN : Addr) : Sp := fun vs H Q E => ∃ (p : Addr) (cs : List Int) (fs : List (List Tri)) (y z : Int), vs = [.ref p, .int y, .int z] ∧ BookAt K C H p cs fs ∧ (∀ f ∈ fs, f.length ≤ 100) ∧ (∀ f ∈ fs, PadsUp f) ∧ (∀ i j : Nat, y = (i : Int) → z = (j : Int) → i < fs.length → j < fs.length → ∀ H', Same H H' → Q (.bl (meetB (fs.getD i []) (fs.getD j []))) H') ∧ (¬ (0 ≤ y ∧ y < (fs.length : Nat)) → refuseN 24 CN [y] H E) ∧ (0 ≤ y ∧ y < (fs.length : Nat) → ¬ (0 ≤ z ∧ z < (fs.length : Nat)) → refuseN 24 CN [z] H E)
theorem getD_pads {fs : List (List Tri)} (h : ∀ f ∈ fs, PadsUp f) {i : Nat} (hi : i < fs.length) : PadsUp (fs.getD i []) := by
  rw [List.getD_eq_getElem?_getD, List.getElem?_eq_getElem hi]
  exact h _ (List.getElem_mem hi)
section
variable {P : Program} {w : World} {K : PySem.W.Frag} {mg : Str → Option Value} {base : Heap}
theorem ok_meetX {f C CN fS fM : Addr} {fd fdS fdM : FuncData} {k : Nat} (F : Fun K "meet" "Book.meet" sMeetX f fd) (T : BkTxt K mg C)
    (bS : Binds K fdS ["self", "at"] []) (mS : Meth K C "shape" fS) (GS : FnOk P w K mg base (L2.CX P w) (k + 1) fS fdS ["self", "at"] (spShpX K C CN))
    (FM : Fun K "mask_of" "mask_of" sMask fM fdM) (bM : Binds K fdM ["figure"] []) (gM : mg "mask_of" = some (.ref fM)) (GM : FnOk P w K mg base CX0 (k + 1) fM fdM ["figure"] (spMask K)) :
    FnOk P w K mg base (L2.CX P w) (k + 2) f fd ["self", "one", "other"] (spMeetX K C CN) := by
  refine F.okX scMeetX (fun vs H Q E h => ?_) (fun cdv A outer s H vs Q E hr h => ?_)
  · obtain ⟨p, cs, fs, y, z, rfl, _⟩ := h
    rfl
  · obtain ⟨p, cs, fs, y, z, rfl, hK, hl, hU, q, q1, q2⟩ := h
    obtain ⟨dx, a, b, xs, hp, ha, hb, hA⟩ := id hK
    refine ⟨_, pss_one (ps_ret (pe_cmpR op_ne (pe_op op_and (pe_call GM hr (by rfl) gM FM.kp bM .nil pass0 (pa_cons (pe_meth (pv 0) T.cl mS GS hr bS .nil (passes_call (takes_of rfl rfl rfl rfl) (fun _ _ _ _ h => h)) (pa_cons (pv 1) pa_nil)) pa_nil)) (pe_call GM hr (by rfl) gM FM.kp bM .nil pass0 (pa_cons (pe_meth (pv 0) T.cl mS GS hr bS .nil (passes_call (takes_of rfl rfl rfl rfl) (fun _ _ _ _ h => h)) (pa_cons (pv 2) pa_nil)) pa_nil))) pe_int (nomark _))), ?_⟩
    refine ⟨.ref p, rfl, p, dx, _, rfl, hp, rfl, .int y, rfl, p, cs, fs, y, rfl, hK, fun i ey hi v hv => ?_, q1⟩
    refine ⟨v, _, rfl, hv, getD_len100 hl i, getD_pads hU hi, fun H1 s1 => ?_⟩
    refine ⟨.ref p, rfl, p, dx, _, rfl, s1 _ _ hp, rfl, .int z, rfl, p, cs, fs, z, rfl, hK.same s1, fun j ez hj u hu => ?_, fun e => (q2 (by omega) e).later s1⟩
    refine ⟨u, _, rfl, hu, getD_len100 hl j, getD_pads hU hj, fun H2 s2 => ?_⟩
    refine ⟨_, _, rfl, rfl, rfl, ?_⟩
    have := q i j ey ez hi hj _ (s1.trans s2)
    rw [← mask_test (getD_pads hU hi) (getD_pads hU hj)] at this
    exact this
end
/-! ### heights of pads and levels of figures: the program's and the law's are one (Heap.tiers_of, _law_layers) -/
/-- the greatest of the numbers, 0 of none -/
def top0 : List Nat → Nat
  | [] => 0
  | x :: xs => max x (top0 xs)
theorem le_top0 {x : Nat} : ∀ {l : List Nat}, x ∈ l → x ≤ top0 l
  | y :: ys, h => by
    cases h with
    | head => exact Nat.le_max_left ..
    | tail _ h => exact Nat.le_trans (le_top0 h) (Nat.le_max_right ..)
theorem top0_le {m : Nat} : ∀ {l : List Nat}, (∀ x ∈ l, x ≤ m) → top0 l ≤ m
  | [], _ => Nat.zero_le _
  | y :: ys, h => Nat.max_le.mpr ⟨h y (List.mem_cons_self ..), top0_le fun x hx => h x (List.mem_cons_of_mem _ hx)⟩
theorem top0_mem : ∀ {l : List Nat}, l ≠ [] → top0 l ∈ l
  | [], h => absurd rfl h
  | [x], _ => by
    show max x 0 ∈ [x]
    rw [Nat.max_eq_left (Nat.zero_le _)]
    exact List.mem_singleton.mpr rfl
  | x :: y :: ys, _ => by
    have ih := top0_mem (l := y :: ys) (List.cons_ne_nil _ _)
    show max x (top0 (y :: ys)) ∈ _
    by_cases e : x ≤ top0 (y :: ys)
    · rw [Nat.max_eq_right e]
      exact List.mem_cons_of_mem _ ih
    · rw [Nat.max_eq_left (by omega)]
      exact List.mem_cons_self ..
/-- what lies: the pads of each figure and its level -/
abbrev Lain : Type := List (List Int × Nat)
/-- one above the highest figure that lies on the pad -/
def padH (d : Lain) (p : Int) : Nat := top0 ((d.filter fun e => decide (p ∈ e.1)).map fun e => e.2 + 1)
/-- one above the highest figure that meets these pads -/
def figH (d : Lain) (ps : List Int) : Nat := top0 ((d.filter fun e => e.1.any fun p => decide (p ∈ ps)).map fun e => e.2 + 1)
theorem padH_le {d : Lain} {p : Int} {e : List Int × Nat} (he : e ∈ d) (hp : p ∈ e.1) : e.2 + 1 ≤ padH d p :=
  le_top0 (List.mem_map.mpr ⟨e, List.mem_filter.mpr ⟨he, decide_eq_true hp⟩, rfl⟩)
theorem figH_le {d : Lain} {ps : List Int} {e : List Int × Nat} {p : Int} (he : e ∈ d) (hp : p ∈ e.1) (h : p ∈ ps) : e.2 + 1 ≤ figH d ps :=
  le_top0 (List.mem_map.mpr ⟨e, List.mem_filter.mpr ⟨he, List.any_eq_true.mpr ⟨p, hp, decide_eq_true h⟩⟩, rfl⟩)
/-- the greatest of the pads' heights is the figure's level -/
theorem top_padH (d : Lain) (ps : List Int) : top0 (ps.map (padH d)) = figH d ps := by
  apply Nat.le_antisymm
  · refine top0_le fun x hx => ?_
    obtain ⟨p, hp, rfl⟩ := List.mem_map.mp hx
    refine top0_le fun y hy => ?_
    obtain ⟨e, he, rfl⟩ := List.mem_map.mp hy
    obtain ⟨h1, h2⟩ := List.mem_filter.mp he
    exact figH_le h1 (of_decide_eq_true h2) hp
  · refine top0_le fun y hy => ?_
    obtain ⟨e, he, rfl⟩ := List.mem_map.mp hy
    obtain ⟨h1, h2⟩ := List.mem_filter.mp he
    obtain ⟨p, hp, h3⟩ := List.any_eq_true.mp h2
    exact Nat.le_trans (padH_le h1 hp) (le_top0 (List.mem_map.mpr ⟨p, of_decide_eq_true h3, rfl⟩))
/-- one more figure: the heights behind it -/
theorem padH_snoc_in {d : Lain} {ps : List Int} {p : Int} (h : p ∈ ps) : padH (d ++ [(ps, figH d ps)]) p = figH d ps + 1 := by
  apply Nat.le_antisymm
  · refine top0_le fun y hy => ?_
    obtain ⟨e, he, rfl⟩ := List.mem_map.mp hy
    obtain ⟨h1, h2⟩ := List.mem_filter.mp he
    rcases List.mem_append.mp h1 with h1 | h1
    · exact Nat.le_trans (figH_le h1 (of_decide_eq_true h2) h) (Nat.le_succ _)
    · rw [List.mem_singleton.mp h1]
      exact Nat.le_refl _
  · exact padH_le (e := (ps, figH d ps)) (List.mem_append_right _ (List.mem_singleton.mpr rfl)) h
theorem padH_snoc_out {d : Lain} {ps : List Int} {n : Nat} {p : Int} (h : ¬ p ∈ ps) : padH (d ++ [(ps, n)]) p = padH d p := by
  unfold padH
  rw [List.filter_append]
  have : [(ps, n)].filter (fun e => decide (p ∈ e.1)) = [] := by
    rw [List.filter_cons_of_neg (by
      show ¬ decide (p ∈ ps) = true
      rw [decide_eq_false h]
      exact Bool.false_ne_true)]
    rfl
  rw [this, List.append_nil]
/-- how many tiers there are -/
def tops (d : Lain) : Nat := top0 (d.map fun e => e.2 + 1)
theorem figH_le_tops (d : Lain) (ps : List Int) : figH d ps ≤ tops d := top0_le fun y hy => by
  obtain ⟨e, he, rfl⟩ := List.mem_map.mp hy
  exact le_top0 (List.mem_map.mpr ⟨e, (List.mem_filter.mp he).1, rfl⟩)
theorem top0_append (a b : List Nat) : top0 (a ++ b) = max (top0 a) (top0 b) := by
  induction a with
  | nil => exact (Nat.max_eq_right (Nat.zero_le _)).symm
  | cons x xs ih =>
    show max x (top0 (xs ++ b)) = max (max x (top0 xs)) (top0 b)
    rw [ih, Nat.max_assoc]
theorem tops_snoc (d : Lain) (ps : List Int) : tops (d ++ [(ps, figH d ps)]) = max (tops d) (figH d ps + 1) := by
  unfold tops
  rw [List.map_append, top0_append]
  show max _ (max _ 0) = _
  rw [Nat.max_eq_left (Nat.zero_le (figH d ps + 1))]
/-- a new tier is begun just where the height is the count of the tiers -/
theorem tops_new {d : Lain} {ps : List Int} (h : figH d ps = tops d) : tops (d ++ [(ps, figH d ps)]) = tops d + 1 := by
  rw [tops_snoc, h]
  exact Nat.max_eq_right (Nat.le_succ _)
theorem tops_old {d : Lain} {ps : List Int} (h : ¬ figH d ps = tops d) : tops (d ++ [(ps, figH d ps)]) = tops d := by
  rw [tops_snoc]
  have := figH_le_tops d ps
  exact Nat.max_eq_left (by omega)
/-- the figures of a row by their levels: t gives the tier of the height n -/
def tierAt (row : List Int) (d : Lain) (n : Nat) : List Int := ((row.zip d).filter fun e => decide (e.2.2 = n)).map fun e => e.1
theorem tierAt_snoc {row : List Int} {d : Lain} (h : row.length = d.length) (x : Int) (ps : List Int) (m n : Nat) : tierAt (row ++ [x]) (d ++ [(ps, m)]) n = tierAt row d n ++ if m = n then [x] else [] := by
  unfold tierAt
  rw [List.zip_append h, List.filter_append, List.map_append]
  congr 1
  show (([(x, (ps, m))] : List (Int × (List Int × Nat))).filter _).map _ = _
  by_cases e : m = n
  · rw [List.filter_cons_of_pos (by exact decide_eq_true e), if_pos e]
    rfl
  · rw [List.filter_cons_of_neg (by
      show ¬ decide (m = n) = true
      rw [decide_eq_false e]
      exact Bool.false_ne_true), if_neg e]
    rfl
/-! ### rows with the same lists on each pad lie in the same tiers -/
/-- pd: the pads of a figure -/
def lay (pd : Int → List Int) (row : List Int) : Lain := row.foldl (fun d x => d ++ [(pd x, figH d (pd x))]) []
theorem lay_snoc (pd : Int → List Int) (r : List Int) (x : Int) : lay pd (r ++ [x]) = lay pd r ++ [(pd x, figH (lay pd r) (pd x))] := by
  unfold lay
  rw [List.foldl_append]
  rfl
theorem snocInd {α : Type} {M : List α → Prop} (h0 : M []) (h1 : ∀ r x, M r → M (r ++ [x])) (l : List α) : M l := by
  have : ∀ l : List α, M l.reverse := fun l => by
    induction l with
    | nil => exact h0
    | cons x xs ih =>
      rw [List.reverse_cons]
      exact h1 _ _ ih
  have h := this l.reverse
  rw [List.reverse_reverse] at h
  exact h
theorem lay_len (pd : Int → List Int) (r : List Int) : r.length = (lay pd r).length := by
  refine snocInd (M := fun r => r.length = (lay pd r).length) rfl (fun r x ih => ?_) r
  rw [lay_snoc, List.length_append, List.length_append, ih]
  rfl
structure Eqv (pd : Int → List Int) (r s : List Int) : Prop where
  h : ∀ p, padH (lay pd r) p = padH (lay pd s) p
  t : ∀ n, (tierAt r (lay pd r) n).Perm (tierAt s (lay pd s) n)
  k : tops (lay pd r) = tops (lay pd s)
theorem Eqv.rfl' {pd : Int → List Int} {r : List Int} : Eqv pd r r := ⟨fun _ => rfl, fun _ => List.Perm.refl _, rfl⟩
theorem Eqv.trans {pd : Int → List Int} {r s t : List Int} (a : Eqv pd r s) (b : Eqv pd s t) : Eqv pd r t := ⟨fun p => (a.h p).trans (b.h p), fun n => (a.t n).trans (b.t n), a.k.trans b.k⟩
theorem Eqv.symm {pd : Int → List Int} {r s : List Int} (a : Eqv pd r s) : Eqv pd s r := ⟨fun p => (a.h p).symm, fun n => (a.t n).symm, a.k.symm⟩
theorem figH_of {d e : Lain} {ps : List Int} (h : ∀ p ∈ ps, padH d p = padH e p) : figH d ps = figH e ps := by
  rw [← top_padH, ← top_padH]
  congr 1
  exact List.map_congr_left h
theorem Eqv.step {pd : Int → List Int} {r s : List Int} (a : Eqv pd r s) (x : Int) : Eqv pd (r ++ [x]) (s ++ [x]) := by
  have hf : figH (lay pd r) (pd x) = figH (lay pd s) (pd x) := figH_of fun p _ => a.h p
  refine ⟨fun p => ?_, fun n => ?_, ?_⟩
  · rw [lay_snoc, lay_snoc]
    by_cases e : p ∈ pd x
    · rw [padH_snoc_in e, padH_snoc_in e, hf]
    · rw [padH_snoc_out e, padH_snoc_out e, a.h]
  · rw [lay_snoc, lay_snoc, tierAt_snoc (lay_len pd r), tierAt_snoc (lay_len pd s), hf]
    exact (a.t n).append_right _
  · rw [lay_snoc, lay_snoc, tops_snoc, tops_snoc, a.k, hf]
theorem Eqv.swap {pd : Int → List Int} {r : List Int} {x y : Int} (dj : ∀ p, p ∈ pd x → ¬ p ∈ pd y) : Eqv pd (r ++ [x] ++ [y]) (r ++ [y] ++ [x]) := by
  have dj2 : ∀ p, p ∈ pd y → ¬ p ∈ pd x := fun p h1 h2 => dj p h2 h1
  have hy : figH (lay pd (r ++ [x])) (pd y) = figH (lay pd r) (pd y) := figH_of fun p hp => by
    rw [lay_snoc, padH_snoc_out (dj2 p hp)]
  have hx : figH (lay pd (r ++ [y])) (pd x) = figH (lay pd r) (pd x) := figH_of fun p hp => by
    rw [lay_snoc, padH_snoc_out (dj p hp)]
  refine ⟨fun p => ?_, fun n => ?_, ?_⟩
  · rw [lay_snoc pd (r ++ [x]), lay_snoc pd (r ++ [y])]
    by_cases e1 : p ∈ pd x
    · rw [padH_snoc_out (dj p e1), padH_snoc_in e1, lay_snoc, padH_snoc_in e1, hx]
    · by_cases e2 : p ∈ pd y
      · rw [padH_snoc_in e2, padH_snoc_out e1, lay_snoc pd r y, padH_snoc_in e2, hy]
      · rw [padH_snoc_out e2, padH_snoc_out e1, lay_snoc, lay_snoc, padH_snoc_out e1, padH_snoc_out e2]
  · rw [lay_snoc pd (r ++ [x]), lay_snoc pd (r ++ [y]), tierAt_snoc (lay_len pd _), tierAt_snoc (lay_len pd _), hy, hx, lay_snoc, lay_snoc, tierAt_snoc (lay_len pd _), tierAt_snoc (lay_len pd _), List.append_assoc, List.append_assoc]
    exact List.Perm.append_left _ List.perm_append_comm
  · rw [lay_snoc pd (r ++ [x]), lay_snoc pd (r ++ [y]), tops_snoc, tops_snoc, hy, hx, lay_snoc, lay_snoc, tops_snoc, tops_snoc, Nat.max_assoc, Nat.max_assoc, Nat.max_comm (figH (lay pd r) (pd x) + 1)]
/-- a figure that meets none of b may be laid behind b -/
theorem Eqv.bubble {pd : Int → List Int} {a : List Int} {x : Int} (b : List Int) (h : ∀ y ∈ b, ∀ p, p ∈ pd x → ¬ p ∈ pd y) : Eqv pd (a ++ [x] ++ b) (a ++ b ++ [x]) := by
  refine snocInd (M := fun b => (∀ y ∈ b, ∀ p, p ∈ pd x → ¬ p ∈ pd y) → Eqv pd (a ++ [x] ++ b) (a ++ b ++ [x])) (fun _ => ?_) (fun b y ih h => ?_) b h
  · rw [List.append_nil, List.append_nil]
    exact Eqv.rfl'
  · have e1 := (ih fun z hz => h z (List.mem_append_left _ hz)).step y
    have e2 := Eqv.swap (pd := pd) (r := a ++ b) (x := x) (y := y) (h y (List.mem_append_right _ (List.mem_singleton.mpr rfl)))
    rw [← List.append_assoc, ← List.append_assoc a b [y]]
    exact e1.trans e2
/-- the list on the pad p -/
def onPad (pd : Int → List Int) (p : Int) (r : List Int) : List Int := r.filter fun x => decide (p ∈ pd x)
theorem onPad_append (pd : Int → List Int) (p : Int) (r s : List Int) : onPad pd p (r ++ s) = onPad pd p r ++ onPad pd p s := List.filter_append ..
theorem onPad_in {pd : Int → List Int} {p x : Int} (h : p ∈ pd x) : onPad pd p [x] = [x] := List.filter_cons_of_pos (decide_eq_true h)
theorem onPad_out {pd : Int → List Int} {p x : Int} (h : ¬ p ∈ pd x) : onPad pd p [x] = [] := List.filter_cons_of_neg (by
  rw [decide_eq_false h]
  exact Bool.false_ne_true)
theorem last_split {x : Int} : ∀ {s : List Int}, x ∈ s → ∃ a b, s = a ++ [x] ++ b ∧ ¬ x ∈ b
  | y :: ys, h => by
    by_cases e : x ∈ ys
    · obtain ⟨a, b, rfl, hb⟩ := last_split e
      exact ⟨y :: a, b, rfl, hb⟩
    · cases h with
      | head => exact ⟨[], ys, rfl, e⟩
      | tail _ h => exact absurd h e
theorem Eqv.of_onPad {pd : Int → List Int} (r : List Int) : ∀ s : List Int, (∀ x ∈ r, pd x ≠ []) → (∀ x ∈ s, pd x ≠ []) → (∀ p, onPad pd p r = onPad pd p s) → Eqv pd r s := by
  refine snocInd (M := fun r => ∀ s : List Int, (∀ x ∈ r, pd x ≠ []) → (∀ x ∈ s, pd x ≠ []) → (∀ p, onPad pd p r = onPad pd p s) → Eqv pd r s) (fun s _ hs h => ?_) (fun r x ih s hr hs h => ?_) r
  · cases s with
    | nil => exact Eqv.rfl'
    | cons y ys =>
      obtain ⟨p, hp⟩ := List.exists_mem_of_ne_nil _ (hs y (List.mem_cons_self ..))
      have := h p
      rw [show (y :: ys) = [y] ++ ys from rfl, onPad_append, onPad_in hp] at this
      cases this
  · obtain ⟨p0, hp0⟩ := List.exists_mem_of_ne_nil _ (hr x (List.mem_append_right _ (List.mem_singleton.mpr rfl)))
    have hx : x ∈ s := by
      have e := h p0
      rw [onPad_append, onPad_in hp0] at e
      have : x ∈ onPad pd p0 s := by
        rw [← e]
        exact List.mem_append_right _ (List.mem_singleton.mpr rfl)
      exact (List.mem_filter.mp this).1
    obtain ⟨a, b, rfl, hb⟩ := last_split hx
    have hnil : ∀ p, p ∈ pd x → onPad pd p b = [] := fun p hp => by
      have e := h p
      rw [onPad_append, onPad_append, onPad_append, onPad_in hp] at e
      by_cases z : onPad pd p b = []
      · exact z
      · have l1 : (onPad pd p r ++ [x]).getLast? = some x := List.getLast?_concat ..
        rw [e, List.getLast?_append, List.getLast?_eq_some_getLast z] at l1
        have l2 : (onPad pd p b).getLast z = x := Option.some.inj l1
        have := List.getLast_mem z
        rw [l2] at this
        exact absurd (List.mem_filter.mp this).1 hb
    have dj : ∀ y ∈ b, ∀ p, p ∈ pd x → ¬ p ∈ pd y := fun y hy p hp hq => by
      have : y ∈ onPad pd p b := List.mem_filter.mpr ⟨hy, decide_eq_true hq⟩
      rw [hnil p hp] at this
      cases this
    have hrest : ∀ p, onPad pd p r = onPad pd p (a ++ b) := fun p => by
      have e := h p
      rw [onPad_append, onPad_append, onPad_append] at e
      rw [onPad_append]
      by_cases hp : p ∈ pd x
      · rw [onPad_in hp, hnil p hp, List.append_nil] at e
        rw [hnil p hp, List.append_nil]
        exact List.append_cancel_right e
      · rw [onPad_out hp, List.append_nil, List.append_nil] at e
        exact e
    have e1 := (ih (a ++ b) (fun z hz => hr z (List.mem_append_left _ hz)) (fun z hz => hs z (by
      rcases List.mem_append.mp hz with hz | hz
      · exact List.mem_append_left _ (List.mem_append_left _ hz)
      · exact List.mem_append_right _ hz)) hrest).step x
    exact e1.trans (Eqv.bubble b dj).symm
/-! ### the tiers tell the lists on each pad -/
def tiersOn (pd : Int → List Int) (p : Int) (t : Nat → List Int) : Nat → List Int
  | 0 => []
  | n + 1 => tiersOn pd p t n ++ onPad pd p (t n)
theorem tiersOn_congr {pd : Int → List Int} {p : Int} {t u : Nat → List Int} : ∀ {N : Nat}, (∀ n < N, onPad pd p (t n) = onPad pd p (u n)) → tiersOn pd p t N = tiersOn pd p u N
  | 0, _ => rfl
  | N + 1, h => by
    show _ ++ _ = _ ++ _
    rw [tiersOn_congr (N := N) fun n hn => h n (by omega), h N (by omega)]
theorem tiersOn_put {pd : Int → List Int} {p x : Int} {t u : Nat → List Int} {m : Nat} (hu : ∀ n, onPad pd p (u n) = onPad pd p (t n) ++ if m = n then [x] else []) (ht : ∀ n, m < n → onPad pd p (t n) = []) : ∀ N, m < N → tiersOn pd p u N = tiersOn pd p t N ++ [x]
  | 0, h => absurd h (by omega)
  | N + 1, h => by
    show tiersOn pd p u N ++ onPad pd p (u N) = tiersOn pd p t N ++ onPad pd p (t N) ++ [x]
    by_cases e : m = N
    · rw [hu N, if_pos e, tiersOn_congr (u := t) fun n hn => by rw [hu n, if_neg (by omega), List.append_nil], List.append_assoc]
    · rw [tiersOn_put hu ht N (by omega), hu N, if_neg e, ht N (by omega), List.append_nil, List.append_nil, List.append_nil]
theorem tier_lev {row : List Int} {pd : Int → List Int} {n : Nat} {x : Int} (h : x ∈ tierAt row (lay pd row) n) : (pd x, n) ∈ lay pd row := by
  refine snocInd (M := fun row => x ∈ tierAt row (lay pd row) n → (pd x, n) ∈ lay pd row) (fun h => ?_) (fun r y ih h => ?_) row h
  · cases h
  · rw [lay_snoc, tierAt_snoc (lay_len pd r)] at h
    rw [lay_snoc]
    rcases List.mem_append.mp h with h | h
    · exact List.mem_append_left _ (ih h)
    · by_cases e : figH (lay pd r) (pd y) = n
      · rw [if_pos e] at h
        rw [List.mem_singleton.mp h, e]
        exact List.mem_append_right _ (List.mem_singleton.mpr rfl)
      · rw [if_neg e] at h
        cases h
theorem padH_le_figH {d : Lain} {ps : List Int} {p : Int} (h : p ∈ ps) : padH d p ≤ figH d ps := by
  rw [← top_padH]
  exact le_top0 (List.mem_map.mpr ⟨p, h, rfl⟩)
/-- above the figure's level no tier has a figure on its pads -/
theorem tier_above {pd : Int → List Int} {r : List Int} {p x : Int} (h : p ∈ pd x) {n : Nat} (hn : figH (lay pd r) (pd x) ≤ n) : onPad pd p (tierAt r (lay pd r) n) = [] := by
  refine List.filter_eq_nil_iff.mpr fun y hy hp => ?_
  have := padH_le (tier_lev hy) (of_decide_eq_true hp)
  have := padH_le_figH (d := lay pd r) h
  omega
theorem onPad_tiers (pd : Int → List Int) (p : Int) (r : List Int) : ∀ N, tops (lay pd r) ≤ N → onPad pd p r = tiersOn pd p (tierAt r (lay pd r)) N := by
  refine snocInd (M := fun r => ∀ N, tops (lay pd r) ≤ N → onPad pd p r = tiersOn pd p (tierAt r (lay pd r)) N) (fun N _ => ?_) (fun r x ih N hN => ?_) r
  · show [] = _
    induction N with
    | zero => rfl
    | succ n ih =>
      show [] = _ ++ _
      rw [← ih (Nat.zero_le _)]
      rfl
  · have ht : tops (lay pd r) ≤ N ∧ figH (lay pd r) (pd x) < N := by
      rw [lay_snoc, tops_snoc] at hN
      have := Nat.le_max_left (tops (lay pd r)) (figH (lay pd r) (pd x) + 1)
      have := Nat.le_max_right (tops (lay pd r)) (figH (lay pd r) (pd x) + 1)
      omega
    rw [onPad_append, ih N ht.1]
    have hu : ∀ n, tierAt (r ++ [x]) (lay pd (r ++ [x])) n = tierAt r (lay pd r) n ++ if figH (lay pd r) (pd x) = n then [x] else [] := fun n => by
      rw [lay_snoc, tierAt_snoc (lay_len pd r)]
    by_cases hp : p ∈ pd x
    · rw [onPad_in hp]
      refine (tiersOn_put (m := figH (lay pd r) (pd x)) (fun n => ?_) (fun n hn => tier_above hp (by omega)) N ht.2).symm
      rw [hu n, onPad_append]
      congr 1
      by_cases e : figH (lay pd r) (pd x) = n
      · rw [if_pos e, onPad_in hp]
      · rw [if_neg e]
        rfl
    · rw [onPad_out hp, List.append_nil]
      refine tiersOn_congr fun n _ => ?_
      rw [hu n, onPad_append]
      by_cases e : figH (lay pd r) (pd x) = n
      · rw [if_pos e, onPad_out hp, List.append_nil]
      · rw [if_neg e]
        exact (List.append_nil _).symm
/-- on a pad a tier has one figure at most -/
theorem tier_one (pd : Int → List Int) (p : Int) (r : List Int) (n : Nat) : (onPad pd p (tierAt r (lay pd r) n)).length ≤ 1 := by
  refine snocInd (M := fun r => (onPad pd p (tierAt r (lay pd r) n)).length ≤ 1) (Nat.zero_le _) (fun r x ih => ?_) r
  rw [lay_snoc, tierAt_snoc (lay_len pd r), onPad_append]
  by_cases e : figH (lay pd r) (pd x) = n
  · rw [if_pos e]
    by_cases hp : p ∈ pd x
    · rw [tier_above hp (by omega), onPad_in hp]
      exact Nat.le_refl _
    · rw [onPad_out hp, List.append_nil]
      exact ih
  · rw [if_neg e]
    show (_ ++ []).length ≤ 1
    rw [List.append_nil]
    exact ih
theorem perm_one {a b : List Int} (h : a.Perm b) (l : a.length ≤ 1) : a = b := by
  match a, l with
  | [], _ => exact (List.nil_perm.mp h).symm
  | [x], _ => exact List.singleton_perm.mp h
/-- heaps are one just where the lists on each pad are the same -/
theorem eqv_iff {pd : Int → List Int} {r s : List Int} (hr : ∀ x ∈ r, pd x ≠ []) (hs : ∀ x ∈ s, pd x ≠ []) : ((∀ n, (tierAt r (lay pd r) n).Perm (tierAt s (lay pd s) n)) ∧ tops (lay pd r) = tops (lay pd s)) ↔ ∀ p, onPad pd p r = onPad pd p s := by
  constructor
  · intro ⟨h, k⟩ p
    rw [onPad_tiers pd p r _ (Nat.le_refl _), onPad_tiers pd p s _ (Nat.le_refl _), k]
    exact tiersOn_congr fun n _ => perm_one ((h n).filter _) (tier_one pd p r n)
  · intro h
    have e := Eqv.of_onPad r s hr hs h
    exact ⟨e.t, e.k⟩
/-! ### the program's and the law's max -/
theorem max_heights {d : Lain} {ps : List Int} {m : Int} (hm : m ∈ ps.map fun p => ((padH d p : Nat) : Int)) (hl : ∀ y ∈ ps.map fun p => ((padH d p : Nat) : Int), y ≤ m) : m = ((figH d ps : Nat) : Int) := by
  rw [← top_padH]
  obtain ⟨p, hp, rfl⟩ := List.mem_map.mp hm
  have h1 := le_top0 (List.mem_map.mpr ⟨p, hp, rfl⟩ : padH d p ∈ ps.map (padH d))
  have h2 : top0 (ps.map (padH d)) ≤ padH d p := top0_le fun x hx => by
    obtain ⟨q, hq, rfl⟩ := List.mem_map.mp hx
    have := hl _ (List.mem_map.mpr ⟨q, hq, rfl⟩)
    omega
  omega
/-- the law's: the levels of the figures that meet it, and -1 -/
theorem max_levels {d : Lain} {ps : List Int} {m : Int} {ls : List Int} (e : ls = ((d.filter fun e => e.1.any fun p => decide (p ∈ ps)).map fun e => ((e.2 : Nat) : Int))) (hm : m ∈ ls ++ [-1]) (hl : ∀ y ∈ ls ++ [-1], y ≤ m) : m + 1 = ((figH d ps : Nat) : Int) := by
  subst e
  unfold figH
  generalize d.filter (fun e => e.1.any fun p => decide (p ∈ ps)) = g at hm hl ⊢
  have up : top0 (g.map fun e => e.2 + 1) ≤ (m + 1).toNat := top0_le fun x hx => by
    obtain ⟨q, hq, rfl⟩ := List.mem_map.mp hx
    have := hl _ (List.mem_append_left _ (List.mem_map.mpr ⟨q, hq, rfl⟩))
    omega
  have h0 : -1 ≤ m := hl _ (List.mem_append_right _ (List.mem_singleton.mpr rfl))
  rcases List.mem_append.mp hm with h | h
  · obtain ⟨q, hq, rfl⟩ := List.mem_map.mp h
    have := le_top0 (List.mem_map.mpr ⟨q, hq, rfl⟩ : q.2 + 1 ∈ g.map fun e => e.2 + 1)
    omega
  · have := List.mem_singleton.mp h
    omega
theorem tops_max {d : Lain} {m : Int} {ls : List Int} (e : ls = d.map fun e => ((e.2 : Nat) : Int)) (hm : m ∈ ls ++ [-1]) (hl : ∀ y ∈ ls ++ [-1], y ≤ m) : m + 1 = ((tops d : Nat) : Int) := by
  subst e
  unfold tops
  have up : top0 (d.map fun e => e.2 + 1) ≤ (m + 1).toNat := top0_le fun x hx => by
    obtain ⟨q, hq, rfl⟩ := List.mem_map.mp hx
    have := hl _ (List.mem_append_left _ (List.mem_map.mpr ⟨q, hq, rfl⟩))
    omega
  have h0 : -1 ≤ m := hl _ (List.mem_append_right _ (List.mem_singleton.mpr rfl))
  rcases List.mem_append.mp hm with h | h
  · obtain ⟨q, hq, rfl⟩ := List.mem_map.mp h
    have := le_top0 (List.mem_map.mpr ⟨q, hq, rfl⟩ : q.2 + 1 ∈ d.map fun e => e.2 + 1)
    omega
  · have := List.mem_singleton.mp h
    omega
/-- every tier below the count has a figure, so the law's rows and the program's tiers are the same ones -/
theorem tier_empty {pd : Int → List Int} {r : List Int} {n : Nat} (h : tops (lay pd r) ≤ n) : tierAt r (lay pd r) n = [] := by
  cases e : tierAt r (lay pd r) n with
  | nil => rfl
  | cons x xs =>
    have hx : x ∈ tierAt r (lay pd r) n := by
      rw [e]
      exact List.mem_cons_self ..
    have := le_top0 (List.mem_map.mpr ⟨_, tier_lev hx, rfl⟩ : n + 1 ∈ (lay pd r).map fun e => e.2 + 1)
    unfold tops at h
    omega
/-! ### walks over a list or a tuple; a def that may raise, where it does not -/
def iSeq (K : PySem.W.Frag) (tl : TE) : TI := fun σ H R => tl σ H fun x H1 => ∃ a, x = .ref a ∧ ((∃ xs, SqL K H1 a xs) ∧ R (Itl K a) H1 ∨ (∃ xs, SqT K H1 a xs) ∧ R (Itt K a) H1)
theorem pi_seq {X : Cx} {tg l : Expr} {tl : TE} (hl : PE X l tl) : PI X tg l (iSeq X.K tl) := by
  refine ⟨fun pins s σ H R I h => ?_⟩
  refine thn (hl.run pins s σ H _ I h) fun v s1 ⟨x, H1, I1, r1, q1⟩ => ?_
  obtain ⟨a, e, ⟨⟨xs, hq⟩, q⟩ | ⟨⟨xs, hq⟩, q⟩⟩ := q1
  · subst e
    cases r1
    obtain ⟨its, rv, p, hz⟩ := I1.list hq
    refine wpAny_pyIter_list p.isList ?_
    refine ⟨s1.heap.objs.size, [s1.heap.objs.size], _, _, H1, rfl, I1.kept (t' := s1.toks) fun b o e => Heap.get?_push_of_some _ e, turn_list a _, ⟨_, Heap.get?_push_size _ rfl, rfl, rfl⟩, fun b hb => ?_, q⟩
    have e : b = s1.heap.objs.size := by simpa using hb
    subst e
    exact I1.fpOk (Nat.le_refl _) (I1.hok.fresh (Nat.le_refl _))
  · subst e
    cases r1
    obtain ⟨its, rv, p, hz⟩ := I1.tuple hq
    refine wpAny_pyIter_tuple (show s1.heap.IsTuple a its.toArray from p) ?_
    refine ⟨s1.heap.objs.size, [s1.heap.objs.size], _, _, H1, rfl, I1.kept (t' := s1.toks) fun b o e => Heap.get?_push_of_some _ e, turn_tuple a _, ⟨_, Heap.get?_push_size _ rfl, rfl, rfl⟩, fun b hb => ?_, q⟩
    have e : b = s1.heap.objs.size := by simpa using hb
    subst e
    exact I1.fpOk (Nat.le_refl _) (I1.hok.fresh (Nat.le_refl _))
/-- a list or a tuple of these -/
def SqA (K : PySem.W.Frag) (H : Hp) (a : Addr) (xs : List V) : Prop := SqL K H a xs ∨ SqT K H a xs
/-- a for over a list or a tuple that stood at H0 -/
theorem for_seq {K : PySem.W.Frag} {H0 H1 : Hp} {a : Addr} {xs : List V} {g : TG} {tb : L2.TS} {D : Ends} {σ : L2.St} (h : SqA K H0 a xs) (s1 : Same H0 H1) (Pv : Nat → L2.St → Hp → Prop) (h0 : Pv 0 σ H1) (hl : ∀ i σ H, i ≤ xs.length → Pv i σ H → Same H0 H)
    (hs : ∀ i x σ H, xs[i]? = some x → Pv i σ H → g x σ H fun σ2 H2 => tb { D with nx := Pv (i + 1), ct := Pv (i + 1), bk := D.nx } σ2 H2) (hd : ∀ σ H, Pv xs.length σ H → D.nx σ H) :
    (∃ xs, SqL K H1 a xs) ∧ (∃ W : Nat → Nat → L2.St → Hp → Prop, (∃ m, W 0 m σ H1) ∧ ∀ i m σ H, W i m σ H →
      ((Itl K a).stop i H ∧ D.nx σ H) ∨ ((Itl K a).go i H ∧ ∃ N : L2.St → Hp → Prop, (∀ σ' H', N σ' H' → ∃ m', m' < m ∧ W (i + 1) m' σ' H') ∧ ∀ x H', (Itl K a).yld i H x H' → g x σ H' fun σ2 H2 => tb { D with nx := N, ct := N, bk := D.nx } σ2 H2)) ∨
    (∃ xs, SqT K H1 a xs) ∧ (∃ W : Nat → Nat → L2.St → Hp → Prop, (∃ m, W 0 m σ H1) ∧ ∀ i m σ H, W i m σ H →
      ((Itt K a).stop i H ∧ D.nx σ H) ∨ ((Itt K a).go i H ∧ ∃ N : L2.St → Hp → Prop, (∀ σ' H', N σ' H' → ∃ m', m' < m ∧ W (i + 1) m' σ' H') ∧ ∀ x H', (Itt K a).yld i H x H' → g x σ H' fun σ2 H2 => tb { D with nx := N, ct := N, bk := D.nx } σ2 H2)) := by
  rcases h with h | h
  · exact .inl ⟨⟨_, s1.seq h⟩, for_list Pv h0 (fun i σ H hi hP => (hl i σ H hi hP).seq h) hs hd⟩
  · exact .inr ⟨⟨_, Same.tup s1 h⟩, for_tup Pv h0 (fun i σ H hi hP => Same.tup (hl i σ H hi hP) h) hs hd⟩
/-- a comprehension over such -/
theorem lc_seq {K : PySem.W.Frag} {H0 H1 : Hp} {a : Addr} {xs : List V} {g : TG} {tt : TT} {te : TE} {vs : List Nat} {σ : L2.St} {Qd : Addr → Hp → Prop} (h : SqA K H0 a xs) (s1 : Same H0 H1) (Pv : Addr → Nat → Hp → Prop) (h0 : ∀ D, H1 D = none → Pv D 0 (upd H1 D (.lst []))) (hl : ∀ D, H1 D = none → ∀ i H, i ≤ xs.length → Pv D i H → Same H0 H)
    (hs : ∀ D, H1 D = none → ∀ i x H, xs[i]? = some x → Pv D i H → g x (wipe σ vs) H fun σ2 H2 => wipe σ2 vs = wipe σ vs ∧ tt σ2 H2 fun b H3 =>
      if b = true then te σ2 H3 fun y H4 => ∃ acc, H4 D = some (.lst acc) ∧ acc.length < sizeLine ∧ Pv D (i + 1) (upd H4 D (.lst (acc ++ [y]))) else Pv D (i + 1) H3) (hd : ∀ D, H1 D = none → ∀ H, Pv D xs.length H → Qd D H) :
    (∃ xs, SqL K H1 a xs) ∧ (∀ D, H1 D = none → ∃ W : Nat → Nat → Hp → Prop, (∃ m, W 0 m (upd H1 D (.lst []))) ∧ ∀ i m H, W i m H →
      ((Itl K a).stop i H ∧ Qd D H) ∨ ((Itl K a).go i H ∧ ∃ Nx : Hp → Prop, (∀ H', Nx H' → ∃ m', m' < m ∧ W (i + 1) m' H') ∧ ∀ x H', (Itl K a).yld i H x H' → g x (wipe σ vs) H' fun σ2 H2 => wipe σ2 vs = wipe σ vs ∧ tt σ2 H2 fun b H3 =>
        if b = true then te σ2 H3 fun y H4 => ∃ acc, H4 D = some (.lst acc) ∧ acc.length < sizeLine ∧ Nx (upd H4 D (.lst (acc ++ [y]))) else Nx H3)) ∨
    (∃ xs, SqT K H1 a xs) ∧ (∀ D, H1 D = none → ∃ W : Nat → Nat → Hp → Prop, (∃ m, W 0 m (upd H1 D (.lst []))) ∧ ∀ i m H, W i m H →
      ((Itt K a).stop i H ∧ Qd D H) ∨ ((Itt K a).go i H ∧ ∃ Nx : Hp → Prop, (∀ H', Nx H' → ∃ m', m' < m ∧ W (i + 1) m' H') ∧ ∀ x H', (Itt K a).yld i H x H' → g x (wipe σ vs) H' fun σ2 H2 => wipe σ2 vs = wipe σ vs ∧ tt σ2 H2 fun b H3 =>
        if b = true then te σ2 H3 fun y H4 => ∃ acc, H4 D = some (.lst acc) ∧ acc.length < sizeLine ∧ Nx (upd H4 D (.lst (acc ++ [y]))) else Nx H3)) := by
  rcases h with h | h
  · exact .inl ⟨⟨_, s1.seq h⟩, fun D nD => lc_list (K := K) (a := a) (xs := xs) (Pv D) (h0 D nD) (fun i H hi hP => (hl D nD i H hi hP).seq h) (hs D nD) (hd D nD)⟩
  · exact .inr ⟨⟨_, Same.tup s1 h⟩, fun D nD => lc_tup (K := K) (a := a) (xs := xs) (Pv D) (h0 D nD) (fun i H hi hP => Same.tup (hl D nD i H hi hP) h) (hs D nD) (hd D nD)⟩
theorem calm {P : Program} {w : World} {K : PySem.W.Frag} {mg : Str → Option Value} {base : Heap} {k : Nat} {f : Addr} {fd : FuncData} {ps : List Str} {sp sp' : Sp} (F : FnOk P w K mg base (L2.CX P w) k f fd ps sp)
    (h : ∀ vs H Q E, sp' vs H Q E → sp vs H Q fun _ _ _ => False) : FnOk P w K mg base CX0 k f fd ps sp' :=
  ⟨fun vs H Q E q => F.len vs H Q _ (h _ _ _ _ q), fun A outer s H args us vs Q E hr he hb hv hs => codeAny_mono (F.run A outer s H args us vs Q _ hr he hb hv (h _ _ _ _ hs)) fun r s' q => by
    cases r with
    | ok fl =>
      cases fl with
      | ret u => exact q
      | next => exact q
      | brk => exact q
      | cont => exact q
    | error e =>
      obtain ⟨a, B, H', cls, d, h1, h2, h3, h4, h5, h6, h7, z⟩ := q
      exact z.elim⟩
/-! ### x == y and x != y, where the class of x has an own __eq__ and no __ne__ -/
theorem no_sub {K : PySem.W.Frag} {C : Addr} {T : String} {ms : List Value} (e : fastBuiltinMro T = some ms) (h : ms.contains (.ref C) = false) : PySem.W.subIn K (.type T) (.ref C) = some false := by
  show (fastBuiltinMro T).map (·.contains (.ref C)) = some false
  rw [e]
  exact congrArg some h
theorem ifBound_objNe {M : Model} {A : Around} {Ex : Value → Shared → Prop} {s : Shared} {K : PySem.W.Frag} {x C : Addr} {ox : Obj} {od : Option Obj} {args : List Value} {Q : Option Value → Shared → Prop} (X : K.In s.heap) (I : PySem.W.InstAt s.heap x ox C od) (hs : PySem.W.findIn K (.ref C) "__ne__" = some (some (.builtin "object.__ne__")))
    (h : wpAny M A (call (.builtin "object.__ne__") (.ref x :: args)) (fun v => Q (some v)) Ex s) : wpAny M A (callSpecialIfBound? (.ref x) "__ne__" args) Q Ex s := by
  simp only [callSpecialIfBound?, bindSpecialIfBound?]
  refine wpAny_holding (wpAny_bind (wpAny_bind (wpAny_bind (I.type.here ((PySem.W.looks_findIn X hs).here ?_)))))
  refine wpAny_bind (wpAny_askSetting (wpAny_ite ?_))
  have fin : wpAny M A (call (.builtin "object.__ne__") ([.ref x] ++ args) >>= fun v => pure (some v)) Q Ex s := wpAny_bind (wpAny_mono h (fun v s' h' => wpAny_pure h') fun _ _ h' => h')
  split
  · exact wpAny_bind (wpAny_of_eq (F.cmp_object.ne.bind _) (wpAny_pure (by exact fin)))
  · exact wpAny_tryCatch (wpAny_bind (wpAny_of_eq (F.cmp_object.ne.bind _) (wpAny_pure (by exact fin))))
/-- what is known of a class with an own __eq__ at f -/
structure EqTxt (K : PySem.W.Frag) (C f : Addr) : Prop where
  eq : PySem.W.findIn K (.ref C) "__eq__" = some (some (.ref f))
  ne : PySem.W.findIn K (.ref C) "__ne__" = some (some (.builtin "object.__ne__"))
  fn : PySem.W.isFn K (.ref f) = true
  ob : PySem.W.mroIn K C (.type "object") = some true
section
variable {X : Cx} {n : Nat} {CX : CXT} {C f : Addr} {fd : FuncData} {ps : List Str} {sp : Sp} {E : XK}
/-- x an instance of C, y of a type that is not below C: what __eq__ tells is a bool -/
def rOwn (K : PySem.W.Frag) (C : Addr) (sp : Sp) (E : XK) (g : Bool → Bool) : R2 := fun x y H Q => ∃ a dx fs t, x = .ref a ∧ H a = some (.ins C dx fs) ∧ TyX K H y t ∧ PySem.W.notFirst K C t = true ∧ sp [x, y] H (fun v H' => ∃ b, v = .bl b ∧ Q (.bl (g b)) H') E
theorem call_own {A : Around} {pins : List (Addr × Obj)} {s : Shared} {σ : L2.St} {H : Hp} {x y : V} {u v : Value} {Q : VK} (F : FnOk X.prog X.w X.K X.mg X.base CX n f fd ps sp) (hb : Binds X.K fd ps []) (hx : Passes CX X E)
    (hr : Room n A) (fr : A.frames = X.A.frames) (I : Inv X pins σ H s) (rx : RelV x u) (ry : RelV y v) (h : sp [x, y] H Q E) :
    wpAny (model X.prog X.w) A (call (.ref f) [u, v]) (EP X pins σ Q) X.xe s := by
  have e0 : Env0 X.prog X.w X.K X.mg X.base A X.stack s H := by
    have e := I.env0
    exact ⟨by rw [fr]; exact e.frames, e.mod, e.bs, e.bsz, e.funs, e.frf, e.hok, e.bare⟩
  have hl := F.len _ _ _ _ h
  refine wpAny_call (codeAny_mono (F.run A X.stack s H ⟨[u, v], []⟩ [u, v] [x, y] _ E hr e0 (by
    have := hb s [u, v] I.kIn (by simpa using hl)
    simpa using this) (.cons rx (.cons ry .nil)) h) fun r s' hq => ?_)
  cases r with
  | error e => exact hx pins σ H s e s' I hq
  | ok fl =>
    cases fl with
    | ret w => exact I.after hq
    | next => exact False.elim hq
    | brk => exact False.elim hq
    | cont => exact False.elim hq
theorem op_eqOwn (T : EqTxt X.K C f) (F : FnOk X.prog X.w X.K X.mg X.base CX n f fd ps sp) (hb : Binds X.K fd ps []) (hx : Passes CX X E) (hr : Room n X.A) : OpR X (compareOp .Eq) (rOwn X.K C sp E id) := by
  intro pins s σ H x y u v Q I rx ry hq
  obtain ⟨a, dx, fs, t, rfl, ha, ty, nf, h⟩ := hq
  cases rx
  obtain ⟨P, kx, hP, _⟩ := kit_of I ry ty
  obtain ⟨mA, J, _⟩ := ins_get I.hok ha
  obtain ⟨od, J, _⟩ := J.look
  obtain ⟨m, hF⟩ := I.fr
  show wpAny (model X.prog X.w) X.A (richCompare .Eq (.ref a) v) _ _ s
  refine PySem.W.cmp_K (op := .Eq) (tb := t) hr.units0 hF I.ok.mod.kin J (kx.ty _ _ I.kIn hP) nf T.eq T.fn ?_
  refine wpAny_mono (call_own (X := X) F hb hx hr rfl I (x := .ref a) rfl ry h) (fun r s' z => ?_) fun _ _ e => e
  obtain ⟨w, H', I', rw', b, ew, q⟩ := z
  subst ew
  cases rw'
  exact ⟨.bl b, H', I', rfl, q⟩
theorem ne_body {A : Around} {pins : List (Addr × Obj)} {s : Shared} {σ : L2.St} {H : Hp} {a : Addr} {ox : Obj} {od : Option Obj} {y : V} {v : Value} {Q : VK} {R : Fin → Shared → Prop} (T : EqTxt X.K C f) (F : FnOk X.prog X.w X.K X.mg X.base CX n f fd ps sp) (hb : Binds X.K fd ps []) (hx : Passes CX X E)
    (hr : Room n A) (fr : A.frames = X.A.frames) (I : Inv X pins σ H s) (J : PySem.W.InstAt s.heap a ox C od) (ry : RelV y v) (h : sp [.ref a, y] H (fun v H' => ∃ b, v = .bl b ∧ Q (.bl (!b)) H') E)
    (hR : ∀ b s', EP X pins σ Q (.bool b) s' → R (.done (.ret (.bool b))) s') : wpAny (model X.prog X.w) A (Builtin.«object.__ne__» ⟨[.ref a, v], []⟩) R X.xe s := by
  have hc := call_own (X := X) (A := A) F hb hx hr fr I (x := .ref a) rfl ry h
  have KI := I.kIn
  unfold Builtin.«object.__ne__»
  repeat (first
    | with_reducible refine wpAny_cRoomFor hr.units0 ?_
    | (refine wpAny_bind (m := callSpecialIfBound? (.ref a) (Str.ofString "__eq__") [v])
        (PySem.W.ifBound_K KI J T.eq T.fn (wpAny_mono hc (fun r s' z => by
          obtain ⟨w, H', I', rw', b, ew, q⟩ := z
          subst ew
          cases rw'
          have hq := hR (!b) s' ⟨.bl (!b), H', I', rfl, q⟩
          repeat (first | exact hq | exact wpAny_pure hq | exact wpAny_truthy_bool hq | (refine wpAny_bind (m := truthy (.bool _)) (wpAny_truthy_bool ?_)) | wp_step)) fun _ _ e => e)))
    | wp_step)
theorem op_neOwn (T : EqTxt X.K C f) (F : FnOk X.prog X.w X.K X.mg X.base CX n f fd ps sp) (hb : Binds X.K fd ps []) (hx : Passes CX X E) (hr : Room (n + 1) X.A) : OpR X (compareOp .NotEq) (rOwn X.K C sp E not) := by
  intro pins s σ H x y u v Q I rx ry hq
  obtain ⟨a, dx, fs, t, rfl, ha, ty, nf, h⟩ := hq
  cases rx
  obtain ⟨P, kx, hP, _⟩ := kit_of I ry ty
  obtain ⟨mA, J, _⟩ := ins_get I.hok ha
  obtain ⟨od, J, _⟩ := J.look
  have KI := I.kIn
  have one : wpAny (model X.prog X.w) X.A (tryCompare (.ref a) "__ne__" v) (fun r s' => ∃ w, r = some w ∧ EP X pins σ Q w s') X.xe s := by
    unfold tryCompare
    refine wpAny_bind (ifBound_objNe KI J T.ne (wpAny_call (codeAny_call_builtin PySem.F.cmp_object.ne.plain PySem.F.cmpEntry_ne (PySem.W.check_slot PySem.F.cmpKind_ne PySem.F.cmpSplit_ne (J.type.andThen (PySem.W.looks_mroIn KI T.ob)) (PySem.F.cmpArgs_ne _ _) ?_))))
    exact ne_body T F hb hx hr.in1 rfl I J ry h fun b s' z => wpAny_pure ⟨_, rfl, z⟩
  show wpAny (model X.prog X.w) X.A (richCompare .NotEq (.ref a) v) _ _ s
  unfold richCompare
  simp only [oneThing_ref]
  refine wpAny_holding (wpAny_bind (wpAny_cRoomFor hr.units0 ?_))
  refine wpAny_bind (J.type.here (wpAny_bind ((kx.ty _ _ I.kIn hP).here ?_)))
  split
  · rename_i q
    have e : PySem.W.subIn X.K t (.ref C) = some false := by
      rcases Bool.or_eq_true_iff.mp nf with e | e
      · rw [beq_iff_eq.mp e] at q; simp at q
      · exact beq_iff_eq.mp e
    refine wpAny_bind ((PySem.W.looks_subIn KI e).here ?_)
    simp only [Bool.false_eq_true, if_false]
    refine wpAny_bind (wpAny_mono one (fun r s' z => ?_) fun _ _ e => e)
    obtain ⟨w, rfl, hq⟩ := z
    exact wpAny_pure hq
  · refine wpAny_bind (wpAny_pure ?_)
    simp only [Bool.false_eq_true, if_false]
    refine wpAny_bind (wpAny_mono one (fun r s' z => ?_) fun _ _ e => e)
    obtain ⟨w, rfl, hq⟩ := z
    exact wpAny_pure hq
end
/-! ### rows of figures of a book, tiers: the mathematics of tiers_of -/
def pdF (fs : List (List Tri)) (x : Int) : List Int := (fs.getD x.toNat []).map (·.1)
def InF (fs : List (List Tri)) (x : Int) : Prop := 0 ≤ x ∧ x < (fs.length : Nat)
instance {fs : List (List Tri)} {x : Int} : Decidable (InF fs x) := inferInstanceAs (Decidable (_ ∧ _))
def TiersT (K : PySem.W.Frag) (H : Hp) (t : Addr) (ts : List (List Int)) : Prop := ∃ xs, SqT K H t xs ∧ All2 (TupZ K H) xs ts
theorem TiersT.ts {K : PySem.W.Frag} {H H' : Hp} (e : TS K H H') {t : Addr} {ts : List (List Int)} (h : TiersT K H t ts) : TiersT K H' t ts := by
  obtain ⟨xs, h1, h2⟩ := h
  exact ⟨xs, e _ _ h1, h2.mono fun _ _ => TupZ.ts e⟩
def srt (l : List Int) : List Int := l.mergeSort (fun a b => decide (a ≤ b))
theorem srt_perm (l : List Int) : (srt l).Perm l := List.mergeSort_perm ..
theorem srt_up (l : List Int) : (srt l).Pairwise (· ≤ ·) := by
  have := List.pairwise_mergeSort (le := fun (a b : Int) => decide (a ≤ b)) (fun a b c h1 h2 => by simp at *; omega) (fun a b => by simp; omega) l
  exact this.imp fun h => by simpa using h
theorem srt_eq {l m : List Int} (h1 : m.Perm l) (h2 : m.Pairwise (· ≤ ·)) : m = srt l :=
  (h1.trans (srt_perm l).symm).eq_of_pairwise (le := (· ≤ ·)) (fun a b _ _ h h' => by omega) h2 (srt_up l)
theorem srt_congr {l m : List Int} (h : l.Perm m) : srt l = srt m := srt_eq ((srt_perm l).trans h) (srt_up l)
def tiersM (fs : List (List Tri)) (row : List Int) : List (List Int) := (List.range (tops (lay (pdF fs) row))).map fun n => srt (tierAt row (lay (pdF fs) row) n)
theorem heights0 {pd : Int → List Int} (n : Nat) : (List.replicate n [V.int 0]).flatten = (List.range n).map fun (p : Nat) => V.int ((padH (lay pd []) (p : Int) : Nat) : Int) := by
  rw [List.flatten_replicate_singleton]
  have : (fun (p : Nat) => V.int ((padH (lay pd []) (p : Int) : Nat) : Int)) = fun _ => V.int 0 := by
    funext p
    rfl
  rw [this, List.map_const', List.length_range]
theorem set_range {α : Type} (n j : Nat) (f : Nat → α) (v : α) : ((List.range n).map f).set j v = (List.range n).map fun p => if p = j then v else f p := by
  apply List.ext_getElem?
  intro i
  rw [List.getElem?_set, List.getElem?_map, List.getElem?_map, List.length_map, List.length_range]
  by_cases h : i < n
  · rw [List.getElem?_range h]
    by_cases e : j = i
    · subst e
      simp [h]
    · simp [e, show ¬ i = j from fun z => e z.symm]
  · have : (List.range n)[i]? = none := by
      rw [List.getElem?_eq_none_iff, List.length_range]
      omega
    rw [this]
    by_cases e : j = i
    · subst e
      simp [h]
    · simp [e]
theorem pdF_in {cs : List Int} {fs : List (List Tri)} (h : ∀ f ∈ fs, GoodF cs f) {x : Int} (hx : InF fs x) : ∃ f, fs[x.toNat]? = some f ∧ GoodF cs f ∧ fs.getD x.toNat [] = f ∧ pdF fs x = f.map (·.1) := by
  obtain ⟨h0, h1⟩ := hx
  have hi : x.toNat < fs.length := by omega
  have e : fs.getD x.toNat [] = fs[x.toNat] := by
    rw [List.getD_eq_getElem?_getD, List.getElem?_eq_getElem hi]
    rfl
  exact ⟨fs[x.toNat], List.getElem?_eq_getElem hi, h _ (List.getElem_mem hi), e, by unfold pdF; rw [e]⟩
theorem pdF_ne {cs : List Int} {fs : List (List Tri)} (h : ∀ f ∈ fs, GoodF cs f) {x : Int} (hx : InF fs x) : pdF fs x ≠ [] := by
  obtain ⟨f, _, hf, _, e⟩ := pdF_in h hx
  rw [e]
  intro z
  exact hf.ne (List.map_eq_nil_iff.mp z)
theorem pdF_mem {cs : List Int} {fs : List (List Tri)} (h : ∀ f ∈ fs, GoodF cs f) {x : Int} (hx : InF fs x) {p : Int} (hp : p ∈ pdF fs x) : 0 ≤ p ∧ p < (cs.length : Nat) := by
  obtain ⟨f, _, hf, _, e⟩ := pdF_in h hx
  rw [e] at hp
  obtain ⟨t, ht, rfl⟩ := List.mem_map.mp hp
  exact ⟨(hf.all t ht).p0, (hf.all t ht).p1⟩
/-- tiers are the same just where the lists on each pad are -/
theorem tiersM_iff {cs : List Int} {fs : List (List Tri)} (hG : ∀ f ∈ fs, GoodF cs f) {r s : List Int} (hr : ∀ x ∈ r, InF fs x) (hs : ∀ x ∈ s, InF fs x) : tiersM fs r = tiersM fs s ↔ ∀ p, onPad (pdF fs) p r = onPad (pdF fs) p s := by
  rw [← eqv_iff (pd := pdF fs) (fun x hx => pdF_ne hG (hr x hx)) (fun x hx => pdF_ne hG (hs x hx))]
  unfold tiersM
  constructor
  · intro h
    have hk : tops (lay (pdF fs) r) = tops (lay (pdF fs) s) := by
      have := congrArg List.length h
      simpa using this
    refine ⟨fun n => ?_, hk⟩
    by_cases hn : n < tops (lay (pdF fs) r)
    · have := congrArg (fun l => l[n]?) h
      rw [List.getElem?_map, List.getElem?_map, List.getElem?_range hn, List.getElem?_range (hk ▸ hn)] at this
      have e := Option.some.inj this
      exact (srt_perm _).symm.trans ((List.Perm.of_eq e).trans (srt_perm _))
    · rw [tier_empty (by omega), tier_empty (by omega)]
  · rintro ⟨h, k⟩
    rw [k]
    exact List.map_congr_left fun n _ => srt_congr (h n)
theorem flat_on (pd : Int → List Int) (p : Int) (t : Nat → List Int) : ∀ N, onPad pd p ((List.range N).map t).flatten = tiersOn pd p t N
  | 0 => rfl
  | N + 1 => by
    rw [List.range_succ, List.map_append, List.flatten_append, onPad_append, flat_on pd p t N]
    show _ ++ onPad pd p ([t N]).flatten = tiersOn pd p t N ++ onPad pd p (t N)
    rw [List.flatten_cons, List.flatten_nil, List.append_nil]
theorem tiersM_on (fs : List (List Tri)) (row : List Int) (p : Int) : onPad (pdF fs) p (tiersM fs row).flatten = onPad (pdF fs) p row := by
  unfold tiersM
  rw [flat_on, onPad_tiers (pdF fs) p row _ (Nat.le_refl _)]
  exact tiersOn_congr fun n _ => (perm_one ((srt_perm _).symm.filter _) (tier_one (pdF fs) p row n)).symm
theorem tier_mem {pd : Int → List Int} {row : List Int} {n : Nat} {x : Int} (h : x ∈ tierAt row (lay pd row) n) : x ∈ row := by
  unfold tierAt at h
  obtain ⟨e, he, rfl⟩ := List.mem_map.mp h
  exact (List.of_mem_zip (List.mem_filter.mp he).1).1
theorem tiersM_mem {fs : List (List Tri)} {row : List Int} {x : Int} (h : x ∈ (tiersM fs row).flatten) : x ∈ row := by
  obtain ⟨l, hl, hx⟩ := List.mem_flatten.mp h
  obtain ⟨n, _, rfl⟩ := List.mem_map.mp hl
  exact tier_mem ((srt_perm _).mem_iff.mp hx)
/-- the row by its tiers is the same heap -/
theorem tiersM_flat {cs : List Int} {fs : List (List Tri)} (hG : ∀ f ∈ fs, GoodF cs f) {r : List Int} (hr : ∀ x ∈ r, InF fs x) : tiersM fs (tiersM fs r).flatten = tiersM fs r :=
  (tiersM_iff hG (fun x hx => hr x (tiersM_mem hx)) hr).mpr fun p => tiersM_on fs r p
theorem tiersM_app {cs : List Int} {fs : List (List Tri)} (hG : ∀ f ∈ fs, GoodF cs f) {r s : List Int} (hr : ∀ x ∈ r, InF fs x) (hs : ∀ x ∈ s, InF fs x) : tiersM fs ((tiersM fs r).flatten ++ (tiersM fs s).flatten) = tiersM fs (r ++ s) := by
  refine (tiersM_iff hG (fun x hx => ?_) (fun x hx => ?_)).mpr fun p => ?_
  · rcases List.mem_append.mp hx with h | h
    · exact hr x (tiersM_mem h)
    · exact hs x (tiersM_mem h)
  · rcases List.mem_append.mp hx with h | h
    · exact hr x h
    · exact hs x h
  · rw [onPad_append, onPad_append, tiersM_on, tiersM_on]
theorem tier_count (pd : Int → List Int) (r : List Int) : ∀ N, tops (lay pd r) ≤ N → (((List.range N).map (tierAt r (lay pd r))).flatten).length = r.length := by
  refine snocInd (M := fun r => ∀ N, tops (lay pd r) ≤ N → (((List.range N).map (tierAt r (lay pd r))).flatten).length = r.length) (fun N _ => ?_) (fun r x ih N hN => ?_) r
  · rw [List.length_flatten, List.map_map]
    induction N with
    | zero => rfl
    | succ n ih =>
      rw [List.range_succ, List.map_append, List.sum_append, ih (Nat.zero_le _)]
      rfl
  · have ht : tops (lay pd r) ≤ N ∧ figH (lay pd r) (pd x) < N := by
      rw [lay_snoc, tops_snoc] at hN
      have := Nat.le_max_left (tops (lay pd r)) (figH (lay pd r) (pd x) + 1)
      have := Nat.le_max_right (tops (lay pd r)) (figH (lay pd r) (pd x) + 1)
      omega
    have hu : ∀ n, tierAt (r ++ [x]) (lay pd (r ++ [x])) n = tierAt r (lay pd r) n ++ if figH (lay pd r) (pd x) = n then [x] else [] := fun n => by
      rw [lay_snoc, tierAt_snoc (lay_len pd r)]
    have key : ∀ (f g : Nat → List Int) (m : Nat), (∀ n, g n = f n ++ if m = n then [x] else []) → ∀ N, (((List.range N).map g).flatten).length = (((List.range N).map f).flatten).length + if m < N then 1 else 0 := by
      intro f g m hg N
      induction N with
      | zero => rfl
      | succ n ih =>
        rw [List.range_succ, List.map_append, List.map_append, List.flatten_append, List.flatten_append, List.length_append, List.length_append, ih]
        show _ + (([g n]).flatten).length = _ + (([f n]).flatten).length + _
        rw [List.flatten_cons, List.flatten_nil, List.append_nil, List.flatten_cons, List.flatten_nil, List.append_nil, hg n, List.length_append]
        by_cases e : m = n
        · subst e
          rw [if_pos rfl, if_neg (by omega), if_pos (by omega)]
          rfl
        · rw [if_neg e]
          by_cases e2 : m < n
          · rw [if_pos e2, if_pos (by omega)]
            simp
            omega
          · rw [if_neg e2, if_neg (by omega)]
            simp
    rw [key _ _ _ hu N, ih N ht.1, if_pos ht.2, List.length_append]
    rfl
theorem flat_len_congr : ∀ {a b : List (List Int)}, a.map List.length = b.map List.length → a.flatten.length = b.flatten.length := by
  intro a b h
  rw [List.length_flatten, List.length_flatten, h]
theorem tiersM_len (fs : List (List Tri)) (row : List Int) : (tiersM fs row).flatten.length = row.length := by
  rw [← tier_count (pdF fs) row _ (Nat.le_refl _)]
  apply flat_len_congr
  unfold tiersM
  rw [List.map_map, List.map_map]
  exact List.map_congr_left fun n _ => (srt_perm _).length_eq
/-! ### tiers_of -/
abbrev sTiers : Stmt := topS 54
abbrev nTiers : List Str := ["book", "row", "heights", "tiers", "figure", "pads", "height", "pad", "tier"]
theorem scTiers : FnScope nTiers ["book", "row"] (defScope sTiers) := ⟨rfl, rfl, rfl, by decide +kernel, rfl, by decide +kernel, by decide +kernel⟩
/-- the first that is no figure -/
def firstBad (fs : List (List Tri)) (row : List Int) : Option Int := row.find? fun x => !decide (InF fs x)
theorem firstBad_none {fs : List (List Tri)} {row : List Int} (h : firstBad fs row = none) : ∀ x ∈ row, InF fs x := fun x hx => by
  have := List.find?_eq_none.mp h x hx
  simpa using this
theorem firstBad_of {fs : List (List Tri)} {row : List Int} {i : Nat} {x : Int} (h0 : ∀ y ∈ row.take i, InF fs y) (hi : row[i]? = some x) (hx : ¬ InF fs x) : firstBad fs row = some x := by
  unfold firstBad
  obtain ⟨hl, e⟩ := List.getElem?_eq_some_iff.mp hi
  have e2 : row = row.take i ++ x :: row.drop (i + 1) := by
    rw [← e, List.getElem_cons_drop_succ_eq_drop, List.take_append_drop]
  rw [e2, List.find?_append]
  rw [List.find?_eq_none.mpr (by
    intro y hy
    have := h0 y hy
    simpa using this)]
  rw [Option.none_or]
  rw [List.find?_cons_of_pos (by simpa using hx)]
def spTiers (K : PySem.W.Frag) (C CN : Addr) : Sp := fun vs H Q E => ∃ (bk rv : Addr) (cs : List Int) (fs : List (List Tri)) (row : List Int), vs = [.ref bk, .ref rv] ∧ BookAt K C H bk cs fs ∧ (∀ f ∈ fs, GoodF cs f) ∧ cs.length ≤ 100 ∧ SqA K H rv (row.map V.int) ∧ row.length ≤ 1000 ∧
  ((∀ x ∈ row, InF fs x) → ∀ H' t, Same H H' → TiersT K H' t (tiersM fs row) → Q (.ref t) H') ∧ ∀ z, firstBad fs row = some z → refuseN 24 CN [z] H E
/-- amid the row: r is laid -/
structure TInv (H0 H' : Hp) (hA tA : Addr) (n : Nat) (pd : Int → List Int) (r : List Int) : Prop where
  sm : Same H0 H'
  hts : H' hA = some (.lst ((List.range n).map fun (p : Nat) => V.int ((padH (lay pd r) (p : Int) : Nat) : Int)))
  trs : ∃ ads : List Addr, H' tA = some (.lst (ads.map V.ref)) ∧ ads.length = tops (lay pd r) ∧ ads.Nodup ∧ ¬ hA ∈ ads ∧ ¬ tA ∈ ads ∧ ∀ (m : Nat) (a : Addr), ads[m]? = some a → H0 a = none ∧ H' a = some (.lst ((tierAt r (lay pd r) m).map V.int))
theorem TInv.same {H0 H' H'' : Hp} {hA tA : Addr} {n : Nat} {pd : Int → List Int} {r : List Int} (h : TInv H0 H' hA tA n pd r) (e : Same H' H'') : TInv H0 H'' hA tA n pd r := by
  obtain ⟨ads, h1, h2, h3, h4, h5, h6⟩ := h.trs
  exact ⟨h.sm.trans e, e _ _ h.hts, ads, e _ _ h1, h2, h3, h4, h5, fun m a ha => ⟨(h6 m a ha).1, e _ _ (h6 m a ha).2⟩⟩
/-- amid a turn: the tiers have room for the figure x -/
structure TMid (H0 H' : Hp) (hA tA : Addr) (n : Nat) (pd : Int → List Int) (r : List Int) (x : Int) (ads : List Addr) : Prop where
  sm : Same H0 H'
  hts : H' hA = some (.lst ((List.range n).map fun (p : Nat) => V.int ((padH (lay pd r) (p : Int) : Nat) : Int)))
  h1 : H' tA = some (.lst (ads.map V.ref))
  h2 : ads.length = tops (lay pd (r ++ [x]))
  h3 : ads.Nodup
  h4 : ¬ hA ∈ ads
  h5 : ¬ tA ∈ ads
  h6 : ∀ (m : Nat) (a : Addr), ads[m]? = some a → H0 a = none ∧ H' a = some (.lst ((tierAt r (lay pd r) m).map V.int))
theorem figH_lt_tops {pd : Int → List Int} {r : List Int} {x : Int} : figH (lay pd r) (pd x) < tops (lay pd (r ++ [x])) := by
  rw [lay_snoc, tops_snoc]
  have := Nat.le_max_right (tops (lay pd r)) (figH (lay pd r) (pd x) + 1)
  omega
/-- a new tier -/
theorem TInv.fresh {H0 H' : Hp} {hA tA nw : Addr} {n : Nat} {pd : Int → List Int} {r : List Int} {x : Int} {ads : List Addr} (sm : Same H0 H')
    (hts : H' hA = some (.lst ((List.range n).map fun (p : Nat) => V.int ((padH (lay pd r) (p : Int) : Nat) : Int))))
    (h1 : H' tA = some (.lst (ads.map V.ref))) (h2 : ads.length = tops (lay pd r)) (h3 : ads.Nodup) (h4 : ¬ hA ∈ ads) (h5 : ¬ tA ∈ ads) (h6 : ∀ (m : Nat) (a : Addr), ads[m]? = some a → H0 a = none ∧ H' a = some (.lst ((tierAt r (lay pd r) m).map V.int)))
    (hne : hA ≠ tA) (hT0 : H0 tA = none) (nn : H' nw = none) (he : figH (lay pd r) (pd x) = tops (lay pd r)) :
    (upd H' nw (.lst [])) tA = some (.lst (ads.map V.ref)) ∧ TMid H0 (upd (upd H' nw (.lst [])) tA (.lst (ads.map V.ref ++ [.ref nw]))) hA tA n pd r x (ads ++ [nw]) := by
  have u := same_upd (o := .lst []) nn
  have hnt : nw ≠ tA := fun z => by rw [z, h1] at nn; cases nn
  have hnh : nw ≠ hA := fun z => by rw [z, hts] at nn; cases nn
  have n0 : H0 nw = none := by
    cases e : H0 nw with
    | none => rfl
    | some o =>
      rw [sm _ _ e] at nn
      cases nn
  have up1 : (upd H' nw (.lst [])) tA = some (.lst (ads.map V.ref)) := u _ _ h1
  refine ⟨up1, ⟨Same.offUpd (sm.trans u) hT0, ?_, ?_, ?_, ?_, ?_, ?_, fun m a ha => ?_⟩⟩
  · rw [upd_ne hne]
    exact u _ _ hts
  · rw [upd_same, List.map_append]
    rfl
  · rw [List.length_append, h2, lay_snoc, tops_new he]
    rfl
  · rw [List.nodup_append]
    refine ⟨h3, by simp, fun a ha b hb => ?_⟩
    rw [List.mem_singleton.mp hb]
    intro z
    obtain ⟨m, hm⟩ := List.getElem?_of_mem ha
    rw [z] at hm
    rw [(h6 m nw hm).2] at nn
    cases nn
  · intro z
    rcases List.mem_append.mp z with z | z
    · exact h4 z
    · exact hnh (List.mem_singleton.mp z).symm
  · intro z
    rcases List.mem_append.mp z with z | z
    · exact h5 z
    · exact hnt (List.mem_singleton.mp z).symm
  · by_cases hm : m < ads.length
    · rw [List.getElem?_append_left hm] at ha
      have hat : a ≠ tA := fun z => h5 (by rw [← z]; exact List.mem_of_getElem? ha)
      refine ⟨(h6 m a ha).1, ?_⟩
      rw [upd_ne hat]
      exact u _ _ (h6 m a ha).2
    · rw [List.getElem?_append_right (by omega)] at ha
      have hm2 : m = ads.length := by
        cases e : m - ads.length with
        | zero => omega
        | succ k =>
          rw [e] at ha
          cases ha
      subst hm2
      rw [Nat.sub_self] at ha
      obtain rfl : nw = a := Option.some.inj ha
      refine ⟨n0, ?_⟩
      rw [upd_ne hnt, upd_same, h2, tier_empty (Nat.le_refl _)]
      rfl
theorem tops_le_len (pd : Int → List Int) (r : List Int) : tops (lay pd r) ≤ r.length := by
  refine snocInd (M := fun r => tops (lay pd r) ≤ r.length) (Nat.zero_le _) (fun r x ih => ?_) r
  rw [lay_snoc, tops_snoc, List.length_append]
  have := figH_le_tops (lay pd r) (pd x)
  refine Nat.max_le.mpr ⟨by omega, ?_⟩
  show _ ≤ r.length + 1
  omega
theorem tier_len (pd : Int → List Int) (r : List Int) (n : Nat) : (tierAt r (lay pd r) n).length ≤ r.length := by
  unfold tierAt
  rw [List.length_map]
  refine Nat.le_trans (List.length_filter_le ..) ?_
  rw [List.length_zip]
  exact Nat.min_le_left ..
theorem nodup_get {α : Type} {l : List α} (h : l.Nodup) {i j : Nat} {a : α} (hi : l[i]? = some a) (hj : l[j]? = some a) : i = j := by
  obtain ⟨h1, e1⟩ := List.getElem?_eq_some_iff.mp hi
  obtain ⟨h2, e2⟩ := List.getElem?_eq_some_iff.mp hj
  exact (List.getElem_inj h).mp (e1.trans e2.symm)
/-- the figure is in its tier, and the heights of its pads are set -/
theorem TMid.done {H0 H' H'' : Hp} {hA tA ad : Addr} {n : Nat} {pd : Int → List Int} {r : List Int} {x : Int} {ads : List Addr} (M : TMid H0 H' hA tA n pd r x ads) (hne : hA ≠ tA) (hH0 : H0 hA = none)
    (had : ads[figH (lay pd r) (pd x)]? = some ad)
    (sm : Off hA (upd H' ad (.lst ((tierAt r (lay pd r) (figH (lay pd r) (pd x))).map V.int ++ [.int x]))) H'')
    (hts : H'' hA = some (.lst ((List.range n).map fun (p : Nat) => V.int (if (p : Int) ∈ pd x then ((figH (lay pd r) (pd x) : Nat) : Int) + 1 else ((padH (lay pd r) (p : Int) : Nat) : Int))))) :
    TInv H0 H'' hA tA n pd (r ++ [x]) := by
  have n0 := (M.h6 _ _ had).1
  have hah : ad ≠ hA := fun z => M.h4 (by rw [← z]; exact List.mem_of_getElem? had)
  have hat : ad ≠ tA := fun z => M.h5 (by rw [← z]; exact List.mem_of_getElem? had)
  refine ⟨fun b o e => ?_, ?_, ads, ?_, M.h2, M.h3, M.h4, M.h5, fun m a ha => ⟨(M.h6 m a ha).1, ?_⟩⟩
  · exact sm b o (ne_of_none e hH0) (by
      rw [upd_ne (ne_of_none e n0)]
      exact M.sm b o e)
  · rw [hts, lay_snoc]
    congr 2
    refine List.map_congr_left fun p _ => ?_
    by_cases e : (p : Int) ∈ pd x
    · rw [if_pos e, padH_snoc_in e]
      congr 1
    · rw [if_neg e, padH_snoc_out e]
  · refine sm tA _ hne.symm ?_
    rw [upd_ne hat.symm]
    exact M.h1
  · have hnh : a ≠ hA := fun z => M.h4 (by rw [← z]; exact List.mem_of_getElem? ha)
    refine sm a _ hnh ?_
    rw [lay_snoc, tierAt_snoc (lay_len pd r)]
    by_cases e : figH (lay pd r) (pd x) = m
    · subst e
      obtain rfl : ad = a := Option.some.inj (had.symm.trans ha)
      rw [upd_same, if_pos rfl, List.map_append]
      rfl
    · have haa : a ≠ ad := fun z => e (nodup_get M.h3 had (by rw [← z]; exact ha))
      rw [upd_ne haa, if_neg e, List.append_nil]
      exact (M.h6 m a ha).2
section
variable {P : Program} {w : World} {K : PySem.W.Frag} {mg : Str → Option Value} {base : Heap}
theorem ok_tiers {f fP fS fM C CN : Addr} {fd fdP fdS fdM : FuncData} {k : Nat} (F : Fun K "tiers_of" "tiers_of" sTiers f fd) (T : BkTxt K mg C) (ml : mg "len" = none) (mx : mg "max" = none) (mt : mg "tuple" = none) (mso : mg "sorted" = none)
    (FP : Fun K "pads_of" "pads_of" sPadsOf fP fdP) (bP : Binds K fdP ["figure"] []) (gP : mg "pads_of" = some (.ref fP)) (GP : FnOk P w K mg base CX0 k fP fdP ["figure"] (spPads K))
    (bS : Binds K fdS ["self", "at"] []) (mS : Meth K C "shape" fS) (GS : FnOk P w K mg base (L2.CX P w) k fS fdS ["self", "at"] (spShpX K C CN))
    (bM : Binds K fdM ["self"] []) (mM : Meth K C "pads" fM) (GM : FnOk P w K mg base CX0 k fM fdM ["self"] (spPadsM K C)) :
    FnOk P w K mg base (L2.CX P w) (k + 1) f fd ["book", "row"] (spTiers K C CN) := by
  refine F.okX scTiers (fun vs H Q E h => ?_) (fun cdv A outer s H vs Q E hr h => ?_)
  · obtain ⟨bk, rv, cs, fs, row, rfl, _⟩ := h
    rfl
  · obtain ⟨bk, rv, cs, fs, row, rfl, hK, hG, hc, hrow, hrl, q, q1⟩ := h
    refine ⟨_, pss_cons (ps_set (i := 2) scTiers.nd rfl (.inr rfl) (pe_op op_rep (pe_lst (pa_cons pe_int pa_nil)) (pe_meth0 (pv 0) T.cl mM GM hr bM .nil pass0)))
      (pss_cons (ps_set (i := 3) scTiers.nd rfl (.inl rfl) (pe_lst pa_nil))
      (pss_cons (ps_for (passes_of rfl) rfl (pi_seq (pv 1)) (pg_name (i := 4) scTiers.nd rfl (.inl rfl))
        (pss_cons (ps_set (i := 5) scTiers.nd rfl (.inl rfl) (pe_call GP hr (by rfl) gP FP.kp bP .nil pass0 (pa_cons (pe_meth (pv 0) T.cl mS GS hr bS .nil (passes_call (takes_of rfl rfl rfl rfl) (fun _ _ _ _ h => h)) (pa_cons (pv 4) pa_nil)) pa_nil)))
        (pss_cons (ps_set (i := 6) scTiers.nd rfl (.inl rfl) (pe_callB (cr_max rfl) (by rfl) mx (by decide +kernel) (pa_cons (pe_lc (own := [("pad", 7)]) (g := gName 7) (tt := tYes) rfl scTiers.nd (pi_list (pv 5))
            (blkOk_by (own := [("pad", 7)]) (N := nTiers) (sc := defScope sTiers) (by decide +kernel)) (fun _ _ _ _ _ => pg_name (i := 7) scTiers.nd rfl (.inl rfl)) (fun _ _ _ _ _ => pts_nil)
            (fun _ _ _ _ _ => pe_ix (r := rIx K) ix_seq (pv 2) (pv 7) (fun _ _ => rfl))) pa_nil)))
        (C8.pss_cut (ps_if (pt_cmpR op_eq (pv 6) (pe_callB call_lenQ (by rfl) ml PySem.boot_len (pa_cons (pv 3) pa_nil)) (nomark _))
            (pss_one (ps_expr (pe_bm PySem.F.plainAttrs_list PySem.F.slot_list_append PySem.F.type_list_append mt_append (pv 3) (pa_cons (pe_lst pa_nil) pa_nil)))) pss_nil)
        (pss_cons (ps_expr (pe_bm PySem.F.plainAttrs_list PySem.F.slot_list_append PySem.F.type_list_append mt_append (pe_ix ix_list (pv 3) (pv 6) (fun _ _ => rfl)) (pa_cons (pv 4) pa_nil)))
        (pss_one (ps_for (passes_of rfl) rfl (pi_list (pv 5)) (pg_name (i := 7) scTiers.nd rfl (.inl rfl))
          (pss_one (ps_asg (pe_op op_add (pv 6) pe_int) (pg_sub (pv 2) (pv 7) set_list))))))))))
      (pss_one (ps_ret (pe_callTy call_tupS (by rfl) mt (by decide +kernel) (pa_cons (pe_lc (own := [("tier", 8)]) (g := gName 8) (tt := tYes) rfl scTiers.nd (pi_list (pv 3))
        (blkOk_by (own := [("tier", 8)]) (N := nTiers) (sc := defScope sTiers) (by decide +kernel)) (fun _ _ _ _ _ => pg_name (i := 8) scTiers.nd rfl (.inl rfl)) (fun _ _ _ _ _ => pts_nil)
        (fun _ _ _ _ _ => pe_callTy (r := rTupS K) call_tupS (by rfl) mt (by decide +kernel) (pa_cons (pe_callB (r := rSortedI K) cr_sortedI (by rfl) mso (by decide +kernel) (pa_cons (pv 8) pa_nil)) pa_nil))) pa_nil)))))), ?_⟩
    obtain ⟨dx, a0, b0, xs0, hbk, hK'⟩ := id hK
    -- heights, tiers
    refine ⟨(show (1 : Nat) ≤ sizeLine by decide), fun z0 nz0 => ?_⟩
    have u0 := same_upd (o := .lst [.int 0]) nz0
    refine ⟨.ref bk, rfl, bk, dx, _, rfl, u0 _ _ hbk, rfl, bk, cs, fs, rfl, hK.same u0, z0, ((cs.length : Nat) : Int), [.int 0], rfl, rfl, upd_same, by omega, by omega, ?_, fun hA nhA => ?_⟩
    · rw [Int.toNat_natCast]
      show 1 * cs.length ≤ sizeLine
      have := small1000 (n := cs.length) (by omega)
      omega
    rw [Int.toNat_natCast, heights0 (pd := pdF fs)]
    have u1 := same_upd (o := .lst ((List.range cs.length).map fun (p : Nat) => V.int ((padH (lay (pdF fs) []) (p : Int) : Nat) : Int))) nhA
    have hh1 : (upd (upd H z0 (.lst [.int 0])) hA (.lst ((List.range cs.length).map fun (p : Nat) => V.int ((padH (lay (pdF fs) []) (p : Int) : Nat) : Int)))) hA = some (.lst ((List.range cs.length).map fun (p : Nat) => V.int ((padH (lay (pdF fs) []) (p : Int) : Nat) : Int))) := upd_same
    have s1 := u0.trans u1
    have hA0 : H hA = none := u0.free nhA
    generalize upd (upd H z0 (.lst [.int 0])) hA (.lst ((List.range cs.length).map fun (p : Nat) => V.int ((padH (lay (pdF fs) []) (p : Int) : Nat) : Int))) = H1 at s1 hh1 ⊢
    clear u0 u1 nhA nz0
    refine ⟨Nat.zero_le _, fun tA ntA => ?_⟩
    have u2 := same_upd (o := .lst []) ntA
    have hne : hA ≠ tA := fun z => by rw [← z, hh1] at ntA; cases ntA
    have tA0 : H tA = none := s1.free ntA
    have I0 : TInv H (upd H1 tA (.lst [])) hA tA cs.length (pdF fs) [] := ⟨s1.trans u2, u2 _ _ hh1, [], upd_same, rfl, List.nodup_nil, fun z => (by cases z), fun z => (by cases z), fun m a ha => (by simp at ha)⟩
    generalize upd H1 tA (.lst []) = H2 at I0 ⊢
    clear s1 hh1 ntA u2
    refine ⟨.ref rv, rfl, rv, rfl, for_seq (K := K) (H0 := H) (xs := row.map V.int) hrow I0.sm (fun i σ H' => ∃ (y4 y5 y6 y7 : Option V), σ = [some (.ref bk), some (.ref rv), some (.ref hA), some (.ref tA), y4, y5, y6, y7, none] ∧ (∀ x ∈ row.take i, InF fs x) ∧ TInv H H' hA tA cs.length (pdF fs) (row.take i))
      ⟨none, none, none, none, rfl, fun x hx => (by simp at hx), I0⟩ (fun i σ H' _ hP => ?_) ?_ ?_⟩
    · obtain ⟨y4, y5, y6, y7, _, _, h⟩ := hP
      exact h.sm
    · rintro i x σ H' hx ⟨y4, y5, y6, y7, rfl, hin, TI⟩
      clear I0
      rw [List.getElem?_map] at hx
      cases hp : row[i]? with
      | none => rw [hp] at hx; cases hx
      | some fg =>
        rw [hp] at hx
        obtain rfl := Option.some.inj hx
        have il : i < row.length := (List.getElem?_eq_some_iff.mp hp).1
        have hbk' := TI.sm _ _ hbk
        -- pads = pads_of(book.shape(figure))
        refine ⟨.ref bk, rfl, bk, dx, _, rfl, hbk', rfl, .int fg, rfl, bk, cs, fs, fg, rfl, hK.same TI.sm, fun j ej hj v hv => ?_, fun bad => (q1 fg (firstBad_of hin hp bad)).later TI.sm⟩
        have hF : InF fs fg := ⟨by omega, by omega⟩
        obtain ⟨F0, hF0, hGF, eF, epd⟩ := pdF_in hG hF
        have ej2 : fg.toNat = j := by omega
        rw [ej2] at eF
        rw [eF] at hv
        have hFl := hGF.len
        refine ⟨v, F0, rfl, hv, by omega, fun H3 pA s3 npA hpA => ?_⟩
        rw [← epd] at hpA
        have TI3 := TI.same s3
        obtain ⟨ads, t1, t2, t3, t4, t5, t6⟩ := TI.trs
        have ph : pA ≠ hA := fun z => by rw [z, TI.hts] at npA; cases npA
        have pt : pA ≠ tA := fun z => by rw [z, t1] at npA; cases npA
        have pn : ¬ pA ∈ ads := fun z => by
          obtain ⟨m, hm⟩ := List.getElem?_of_mem z
          rw [(t6 m pA hm).2] at npA
          cases npA
        -- height = max(..)
        refine ⟨.ref pA, rfl, pA, rfl, ⟨_, SqL.of hpA⟩, fun D nD => ?_⟩
        refine lc_list (K := K) (a := pA) (xs := (pdF fs fg).map V.int) (fun jj H' => Same H3 H' ∧ H' D = some (.lst ((((pdF fs fg).take jj).map fun p => ((padH (lay (pdF fs) (row.take i)) p : Nat) : Int)).map V.int))) ⟨same_upd nD, upd_same⟩ (fun jj H' _ hP => hP.1.seq (SqL.of hpA)) (fun jj x H' hx hP => ?_) (fun H4 hP => ?_)
        · obtain ⟨sm, hD⟩ := hP
          rw [List.getElem?_map] at hx
          cases hp2 : (pdF fs fg)[jj]? with
          | none => rw [hp2] at hx; cases hx
          | some p =>
            rw [hp2] at hx
            obtain rfl := Option.some.inj hx
            obtain ⟨hp0, hp1⟩ := pdF_mem hG hF (List.mem_of_getElem? hp2)
            obtain ⟨n, rfl⟩ := Int.eq_ofNat_of_zero_le hp0
            have hn : n < cs.length := by omega
            refine ⟨rfl, yesT ⟨.ref hA, rfl, .int (n : Nat), rfl, ix_any (.inl (SqL.of (sm _ _ TI3.hts))) (by rw [List.getElem?_map, List.getElem?_range hn]; rfl) ⟨_, hD, ?_, Same.offUpd sm nD, ?_⟩⟩⟩
            · rw [List.length_map, List.length_map, List.length_take, epd, List.length_map]
              exact small1000 (by omega)
            · rw [upd_same, take_snoc hp2, List.map_append, List.map_append]
              rfl
        · obtain ⟨s4, hD⟩ := hP
          rw [List.length_map, List.take_length] at hD
          have hne0 : 0 < (pdF fs fg).length := List.length_pos_iff.mpr (pdF_ne hG hF)
          refine ⟨D, _, rfl, SqL.of hD, by rw [List.length_map]; exact hne0, fun m hm hmx => ?_⟩
          obtain rfl := max_heights hm hmx
          have TI4 := TI3.same s4
          have hp4 := s4 _ _ hpA
          have t1 := (s3.trans s4) _ _ t1
          have t6 : ∀ (m : Nat) (a : Addr), ads[m]? = some a → H a = none ∧ H4 a = some (.lst ((tierAt (row.take i) (lay (pdF fs) (row.take i)) m).map V.int)) := fun m a ha => ⟨(t6 m a ha).1, (s3.trans s4) _ _ (t6 m a ha).2⟩
          clear hm hmx hD nD D s4 s3 TI3 hpA TI
          -- if height == len(tiers)
          refine ⟨fun σ H' => ∃ (y7 : Option V) (ads : List Addr), σ = [some (.ref bk), some (.ref rv), some (.ref hA), some (.ref tA), some (.int fg), some (.ref pA), some (.int ((figH (lay (pdF fs) (row.take i)) (pdF fs fg) : Nat) : Int)), y7, none] ∧ H' pA = some (.lst ((pdF fs fg).map V.int)) ∧ (¬ pA ∈ ads) ∧ TMid H H' hA tA cs.length (pdF fs) (row.take i) fg ads, ?_, ?_⟩
          · refine ⟨_, rfl, .ref tA, rfl, tA, _, rfl, .inl (SqL.of t1), rfl, _, rfl, ?_⟩
            rw [List.length_map, t2]
            by_cases e : figH (lay (pdF fs) (row.take i)) (pdF fs fg) = tops (lay (pdF fs) (row.take i))
            · rw [decide_eq_true (by rw [e])]
              refine iteT ⟨.ref tA, rfl, .inl ⟨rfl, _, SqL.of t1⟩, Nat.zero_le _, fun nw nnw => ?_⟩
              obtain ⟨z1, z2⟩ := TInv.fresh (x := fg) TI4.sm TI4.hts t1 t2 t3 t4 t5 t6 hne tA0 nnw e
              have lt : ads.length ≤ 1000 := by
                rw [t2]
                have := tops_le_len (pdF fs) (row.take i)
                rw [List.length_take] at this
                omega
              refine ⟨tA, _, _, rfl, rfl, z1, by rw [List.length_map]; exact small1000 lt, ?_⟩
              refine ⟨_, _, rfl, ?_, ?_, z2⟩
              · rw [upd_ne pt]
                exact same_upd nnw _ _ hp4
              · intro z
                rcases List.mem_append.mp z with z | z
                · exact pn z
                · rw [← List.mem_singleton.mp z, hp4] at nnw
                  cases nnw
            · rw [decide_eq_false (fun z => e (by have := V.int.inj z; omega))]
              refine iteF ⟨_, ads, rfl, hp4, pn, ⟨TI4.sm, TI4.hts, t1, ?_, t3, t4, t5, t6⟩⟩
              rw [t2, lay_snoc, tops_old e]
          · clear TI4 hp4
            rintro σ H5 ⟨y7', ads, rfl, hp5, pn, M⟩
            obtain ⟨ad, had⟩ : ∃ ad, ads[figH (lay (pdF fs) (row.take i)) (pdF fs fg)]? = some ad := ⟨_, List.getElem?_eq_getElem (by rw [M.h2]; exact figH_lt_tops)⟩
            have hadl := (M.h6 _ _ had).2
            have hap : pA ≠ ad := fun z => pn (by rw [z]; exact List.mem_of_getElem? had)
            have hah : hA ≠ ad := fun z => M.h4 (by rw [z]; exact List.mem_of_getElem? had)
            -- tiers[height].append(figure)
            refine ⟨.ref tA, rfl, _, rfl, tA, _, _, .ref ad, rfl, rfl, SqL.of M.h1, atI_nat (by rw [List.getElem?_map, had]; rfl), .inl ⟨rfl, _, SqL.of hadl⟩, .int fg, rfl, ad, _, _, rfl, rfl, hadl, ?_, ?_⟩
            · rw [List.length_map]
              refine small1000 (Nat.le_trans ?_ hrl)
              have := tier_len (pdF fs) (row.take i) (figH (lay (pdF fs) (row.take i)) (pdF fs fg))
              rw [List.length_take] at this
              omega
            have hp6 : (upd H5 ad (.lst ((tierAt (row.take i) (lay (pdF fs) (row.take i)) (figH (lay (pdF fs) (row.take i)) (pdF fs fg))).map V.int ++ [.int fg]))) pA = some (.lst ((pdF fs fg).map V.int)) := by
              rw [upd_ne hap]
              exact hp5
            have hh6 : (upd H5 ad (.lst ((tierAt (row.take i) (lay (pdF fs) (row.take i)) (figH (lay (pdF fs) (row.take i)) (pdF fs fg))).map V.int ++ [.int fg]))) hA = some (.lst ((List.range cs.length).map fun (p : Nat) => V.int (if (p : Int) ∈ (pdF fs fg).take 0 then ((figH (lay (pdF fs) (row.take i)) (pdF fs fg) : Nat) : Int) + 1 else ((padH (lay (pdF fs) (row.take i)) (p : Int) : Nat) : Int)))) := by
              rw [upd_ne hah, M.hts]
              rfl
            -- for pad in pads
            refine ⟨.ref pA, rfl, pA, rfl, ⟨_, SqL.of hp6⟩, for_list (K := K) (a := pA) (xs := (pdF fs fg).map V.int) (fun jj σ H' => ∃ (y7 : Option V), σ = [some (.ref bk), some (.ref rv), some (.ref hA), some (.ref tA), some (.int fg), some (.ref pA), some (.int ((figH (lay (pdF fs) (row.take i)) (pdF fs fg) : Nat) : Int)), y7, none] ∧ Off hA (upd H5 ad (.lst ((tierAt (row.take i) (lay (pdF fs) (row.take i)) (figH (lay (pdF fs) (row.take i)) (pdF fs fg))).map V.int ++ [.int fg]))) H' ∧ H' hA = some (.lst ((List.range cs.length).map fun (p : Nat) => V.int (if (p : Int) ∈ (pdF fs fg).take jj then ((figH (lay (pdF fs) (row.take i)) (pdF fs fg) : Nat) : Int) + 1 else ((padH (lay (pdF fs) (row.take i)) (p : Int) : Nat) : Int))))) ⟨_, rfl, Off.refl, hh6⟩ (fun jj σ H' _ hP => ?_) ?_ ?_⟩
            · obtain ⟨_, _, off, _⟩ := hP
              exact SqL.of (off _ _ ph hp6)
            · rintro jj x σ H' hx ⟨y7, rfl, off, hh⟩
              rw [List.getElem?_map] at hx
              cases hp2 : (pdF fs fg)[jj]? with
              | none => rw [hp2] at hx; cases hx
              | some p =>
                rw [hp2] at hx
                obtain rfl := Option.some.inj hx
                obtain ⟨hp0, hp1⟩ := pdF_mem hG hF (List.mem_of_getElem? hp2)
                obtain ⟨n, rfl⟩ := Int.eq_ofNat_of_zero_le hp0
                have hn : n < cs.length := by omega
                refine ⟨_, rfl, _, _, rfl, rfl, .ref hA, rfl, .int (n : Nat), rfl, hA, _, _, n, rfl, rfl, hh, ?_, ?_⟩
                · rw [List.length_map, List.length_range]
                  unfold ixN
                  rw [if_pos (by omega), if_pos (by omega), Int.toNat_natCast]
                · refine ⟨_, rfl, off.trans Off.upd, ?_⟩
                  rw [upd_same, set_range]
                  congr 2
                  refine List.map_congr_left fun p' _ => ?_
                  rw [take_snoc hp2]
                  by_cases e : p' = n
                  · subst e
                    rw [if_pos rfl, if_pos (List.mem_append_right _ (List.mem_singleton.mpr rfl))]
                  · rw [if_neg e]
                    congr 1
                    by_cases e2 : (p' : Int) ∈ (pdF fs fg).take jj
                    · rw [if_pos e2, if_pos (List.mem_append_left _ e2)]
                    · rw [if_neg e2, if_neg (fun z => by
                        rcases List.mem_append.mp z with z | z
                        · exact e2 z
                        · exact e (by have := List.mem_singleton.mp z; omega))]
            · rintro σ H' ⟨y7, rfl, off, hh⟩
              rw [List.length_map, List.take_length] at hh
              refine ⟨_, _, _, _, rfl, fun x hx => ?_, ?_⟩
              · rw [take_snoc hp] at hx
                rcases List.mem_append.mp hx with hx | hx
                · exact hin x hx
                · rw [List.mem_singleton.mp hx]
                  exact hF
              · rw [take_snoc hp]
                exact M.done hne hA0 had off hh
    · rintro σ H' ⟨y4, y5, y6, y7, rfl, hin, TI⟩
      rw [List.length_map, List.take_length] at hin TI
      clear I0
      obtain ⟨ads, t1, t2, t3, t4, t5, t6⟩ := TI.trs
      refine ⟨.ref tA, rfl, tA, rfl, ⟨_, SqL.of t1⟩, fun D nD => ?_⟩
      refine lc_list (K := K) (a := tA) (xs := ads.map V.ref) (fun jj H2 => Same H' H2 ∧ ∃ zs, H2 D = some (.lst zs) ∧ All2 (TupZ K H2) zs ((tiersM fs row).take jj)) ⟨same_upd nD, [], upd_same, True.intro⟩ (fun jj H2 _ hP => hP.1.seq (SqL.of t1)) (fun jj x H2 hx hP => ?_) (fun H3 hP => ?_)
      · obtain ⟨sm, zs, hD, hz⟩ := hP
        rw [List.getElem?_map] at hx
        cases hp2 : ads[jj]? with
        | none => rw [hp2] at hx; cases hx
        | some a =>
          rw [hp2] at hx
          obtain rfl := Option.some.inj hx
          have hjl : jj < tops (lay (pdF fs) row) := by
            rw [← t2]
            exact (List.getElem?_eq_some_iff.mp hp2).1
          have htl := tops_le_len (pdF fs) row
          refine ⟨rfl, yesT ⟨.ref a, rfl, a, _, rfl, SqL.of (sm _ _ (t6 jj a hp2).2), fun ns' so p1 p2 nso => ?_⟩⟩
          have u := same_upd (o := .lst (ns'.map V.int)) nso
          refine ⟨so, _, rfl, .inl (SqL.of upd_same), fun l H4 s4 hl => ?_⟩
          have hD4 := (u.trans s4) _ _ hD
          have hzl := hz.len
          rw [List.length_take] at hzl
          refine ⟨_, hD4, small1000 (by omega), Same.offUpd (sm.trans (u.trans s4)) nD, zs ++ [.ref l], upd_same, ?_⟩
          have ht : (tiersM fs row)[jj]? = some ns' := by
            unfold tiersM
            rw [List.getElem?_map, List.getElem?_range hjl, srt_eq p1 p2]
            rfl
          rw [take_snoc ht]
          exact All2.snoc ⟨l, rfl, TS.upd hD4 _ _ hl⟩ (hz.mono fun _ _ => TupZ.ts ((TS.of (u.trans s4)).trans (TS.upd hD4)))
      · obtain ⟨sm, zs, hD, hz⟩ := hP
        rw [List.take_of_length_le (by unfold tiersM; rw [List.length_map, List.length_map, List.length_range, t2]; exact Nat.le_refl _)] at hz
        refine ⟨D, _, rfl, .inl (SqL.of hD), fun l H4 s4 hl => ?_⟩
        exact q hin H4 l ((TI.sm.trans sm).trans s4) ⟨zs, hl, hz.mono fun _ _ => TupZ.ts (TS.of s4)⟩
end
/-! ### a test «a if c else b»; list(..) with its reading by name -/
def rLof (K : PySem.W.Frag) : List V → Hp → VK → Prop := fun xs H Q => ∃ p ys, xs = [.ref p] ∧ (SqL K H p ys ∨ SqT K H p ys) ∧ ∀ l, H l = none → Q (.ref l) (upd H l (.lst ys))
def tIfT (tc ta tb : TT) : TT := fun σ H Q => tc σ H fun k H1 => if k = true then ta σ H1 Q else tb σ H1 Q
section
variable {X : Cx}
theorem call_listK : CallR X (.type "list") (rLof X.K) := call_list_of
theorem pt_ifE {c a b : Expr} {tc ta tb : TT} {pos : Pos} (hc : PT X c tc) (ha : PT X a ta) (hb : PT X b tb) : PT X (.IfExp c a b pos) (tIfT tc ta tb) := ⟨fun pins s σ H Q I h => by
  rw [arm_isTrue_IfExp]
  refine wpAny_bind (thn (hc.run pins s σ H _ I h) fun d s1 ⟨H1, I1, q1⟩ => ?_)
  cases d with
  | true => exact ha.run pins s1 σ H1 Q I1 q1
  | false => exact hb.run pins s1 σ H1 Q I1 q1⟩
end
/-! ### readings of [e for x in xs for y in ys] -/
def Inner (g1 : TG) (tt1 : TT) (te : TE) (vs1 : List Nat) (σ2 : L2.St) (D : Addr) (Nx : Hp → Prop) (J1 : It) (H4 : Hp) : Prop := ∃ W1 : Nat → Nat → Hp → Prop, (∃ m, W1 0 m H4) ∧ ∀ j k H, W1 j k H →
      (J1.stop j H ∧ Nx H) ∨ (J1.go j H ∧ ∃ Nx1 : Hp → Prop, (∀ H', Nx1 H' → ∃ k', k' < k ∧ W1 (j + 1) k' H') ∧ ∀ x H', J1.yld j H x H' → g1 x (wipe σ2 vs1) H' fun σ3 H5 => wipe σ3 vs1 = wipe σ2 vs1 ∧ tt1 σ3 H5 fun b H6 =>
        if b = true then te σ3 H6 fun y H7 => ∃ acc, H7 D = some (.lst acc) ∧ acc.length < sizeLine ∧ Nx1 (upd H7 D (.lst (acc ++ [y]))) else Nx1 H6)
theorem inner_it {J : It} {n : Nat} {G : Hp → Prop} {Y : Nat → Hp → V → Hp → Prop} (w : L2.Walk J n G Y) {g1 : TG} {tt1 : TT} {te : TE} {vs1 : List Nat} {σ2 : L2.St} {H4 : Hp} {D : Addr} {Nx : Hp → Prop} (Pv : Nat → Hp → Prop) (h0 : Pv 0 H4) (hG : ∀ i H, i ≤ n → Pv i H → G H)
    (hs : ∀ i x H H', i < n → Pv i H → Y i H x H' → g1 x (wipe σ2 vs1) H' fun σ3 H5 => wipe σ3 vs1 = wipe σ2 vs1 ∧ tt1 σ3 H5 fun b H6 =>
      if b = true then te σ3 H6 fun y H7 => ∃ acc, H7 D = some (.lst acc) ∧ acc.length < sizeLine ∧ Pv (i + 1) (upd H7 D (.lst (acc ++ [y]))) else Pv (i + 1) H6) (hd : ∀ H, Pv n H → Nx H) : Inner g1 tt1 te vs1 σ2 D Nx J H4 := by
  refine ⟨fun i m H => m = n - i ∧ i ≤ n ∧ Pv i H, ⟨n, by simp, Nat.zero_le _, h0⟩, ?_⟩
  rintro i m H ⟨rfl, hi, p⟩
  have q := hG i H hi p
  by_cases hlt : i < n
  · exact .inr ⟨w.goes i H hlt q, Pv (i + 1), fun H' p' => ⟨n - (i + 1), by omega, rfl, hlt, p'⟩, fun x H' y => hs i x H H' hlt p (w.yields i H x H' hlt q y)⟩
  · have e : i = n := by omega
    subst e
    exact .inl ⟨w.stops H q, hd H p⟩
theorem outer_it {J : It} {n : Nat} {G : Hp → Prop} {Y : Nat → Hp → V → Hp → Prop} (w : L2.Walk J n G Y) {g : TG} {tt : TT} {wi1 : TI} {g1 : TG} {tt1 : TT} {te : TE} {vs vs1 : List Nat} {σ : L2.St} {H1 : Hp} {D : Addr} {Qd : Hp → Prop} (Pv : Nat → Hp → Prop) (h0 : Pv 0 (upd H1 D (.lst []))) (hG : ∀ i H, i ≤ n → Pv i H → G H)
    (hs : ∀ i x H H', i < n → Pv i H → Y i H x H' → g x (wipe σ vs) H' fun σ2 H2 => wipe σ2 vs = wipe σ vs ∧ tt σ2 H2 fun b H3 =>
      if b = true then wi1 σ2 H3 (Inner g1 tt1 te vs1 σ2 D (Pv (i + 1))) else Pv (i + 1) H3) (hd : ∀ H, Pv n H → Qd H) :
    ∃ W : Nat → Nat → Hp → Prop, (∃ m, W 0 m (upd H1 D (.lst []))) ∧ ∀ i m H, W i m H →
      (J.stop i H ∧ Qd H) ∨ (J.go i H ∧ ∃ Nx : Hp → Prop, (∀ H', Nx H' → ∃ m', m' < m ∧ W (i + 1) m' H') ∧ ∀ x H', J.yld i H x H' → g x (wipe σ vs) H' fun σ2 H2 => wipe σ2 vs = wipe σ vs ∧ tt σ2 H2 fun b H3 =>
        if b = true then wi1 σ2 H3 fun J1 H4 => ∃ W1 : Nat → Nat → Hp → Prop, (∃ m, W1 0 m H4) ∧ ∀ j k H, W1 j k H →
          (J1.stop j H ∧ Nx H) ∨ (J1.go j H ∧ ∃ Nx1 : Hp → Prop, (∀ H', Nx1 H' → ∃ k', k' < k ∧ W1 (j + 1) k' H') ∧ ∀ x H', J1.yld j H x H' → g1 x (wipe σ2 vs1) H' fun σ3 H5 => wipe σ3 vs1 = wipe σ2 vs1 ∧ tt1 σ3 H5 fun b H6 =>
            if b = true then te σ3 H6 fun y H7 => ∃ acc, H7 D = some (.lst acc) ∧ acc.length < sizeLine ∧ Nx1 (upd H7 D (.lst (acc ++ [y]))) else Nx1 H6)
        else Nx H3) := by
  refine ⟨fun i m H => m = n - i ∧ i ≤ n ∧ Pv i H, ⟨n, by simp, Nat.zero_le _, h0⟩, ?_⟩
  rintro i m H ⟨rfl, hi, p⟩
  have q := hG i H hi p
  by_cases hlt : i < n
  · exact .inr ⟨w.goes i H hlt q, Pv (i + 1), fun H' p' => ⟨n - (i + 1), by omega, rfl, hlt, p'⟩, fun x H' y => hs i x H H' hlt p (w.yields i H x H' hlt q y)⟩
  · have e : i = n := by omega
    subst e
    exact .inl ⟨w.stops H q, hd H p⟩
/-! ### Heap: __init__, book, row, layers, __len__ -/
def hpF (o t : Addr) : List (Str × V) := [("owner", .ref o), ("tiers", .ref t)]
theorem hpF_tiers (o t : Addr) : List.lookup (Str.ofString "tiers") (hpF o t) = some (V.ref t) := rfl
theorem hpF_owner (o t : Addr) : List.lookup (Str.ofString "owner") (hpF o t) = some (V.ref o) := rfl
def HeapAt (K : PySem.W.Frag) (CH : Addr) (H : Hp) (p bk : Addr) (ts : List (List Int)) : Prop := ∃ dx t, H p = some (.ins CH dx (hpF bk t)) ∧ TiersT K H t ts
theorem HeapAt.same {K : PySem.W.Frag} {CH : Addr} {H H' : Hp} {p bk : Addr} {ts : List (List Int)} (h : HeapAt K CH H p bk ts) (e : Same H H') : HeapAt K CH H' p bk ts := by
  obtain ⟨dx, t, h1, h2⟩ := h
  exact ⟨dx, t, e _ _ h1, h2.ts (TS.of e)⟩
structure HpTxt (K : PySem.W.Frag) (mg : Str → Option Value) (C : Addr) : Prop where
  cl : Cls K C
  nO : NoAttr K C "owner"
  nT : NoAttr K C "tiers"
  mgC : mg "Heap" = some (.ref C)
abbrev sHInit : Stmt := inClass (topS 53) 0
abbrev nHInit : List Str := ["self", "book", "row"]
theorem scHInit : FnScope nHInit ["self", "book", "row"] (defScope sHInit) := ⟨rfl, rfl, rfl, by decide +kernel, rfl, by decide +kernel, by decide +kernel⟩
def spHInit (K : PySem.W.Frag) (C CH CN : Addr) : Sp := fun vs H Q E => ∃ (p dx bk rv : Addr) (cs : List Int) (fs : List (List Tri)) (row : List Int), vs = [.ref p, .ref bk, .ref rv] ∧ H p = some (.ins CH dx []) ∧ BookAt K C H bk cs fs ∧ (∀ f ∈ fs, GoodF cs f) ∧ cs.length ≤ 100 ∧ SqA K H rv (row.map V.int) ∧ row.length ≤ 1000 ∧
  ((∀ x ∈ row, InF fs x) → ∀ H', Off p H H' → HeapAt K CH H' p bk (tiersM fs row) → Q .non H') ∧ ∀ z, firstBad fs row = some z → ∀ (d : Addr) (H' : Hp), Off p H H' → H' d = some (.xd (rFs 24 ([z].map V.int))) → E (.ref CN) (some d) H'
theorem sqA_off {K : PySem.W.Frag} {H H' : Hp} {p C dx b : Addr} {fs : List (Str × V)} {xs : List V} (e : Off p H H') (h : H p = some (.ins C dx fs)) (q : SqA K H b xs) : SqA K H' b xs := by
  rcases q with q | q
  · exact .inl (seqL_off e h q)
  · exact .inr (TS.ins e h _ _ q)
theorem BookAt.off {K : PySem.W.Frag} {C : Addr} {H H' : Hp} {p q CH dx : Addr} {fl : List (Str × V)} {cs : List Int} {fs : List (List Tri)} (h : BookAt K C H q cs fs) (e : Off p H H') (hp : H p = some (.ins CH dx fl)) (n : q ≠ p) : BookAt K C H' q cs fs := by
  obtain ⟨dx, a, b, xs, h1, h2, h3, h4⟩ := h
  have t : TS K H H' := TS.ins e hp
  exact ⟨dx, a, b, xs, e _ _ n h1, t _ _ h2, t _ _ h3, h4.mono fun _ _ => FigT.ts t⟩
section
variable {P : Program} {w : World} {K : PySem.W.Frag} {mg : Str → Option Value} {base : Heap}
theorem ok_hinit {f C CH CN fT : Addr} {fd fdT : FuncData} {k : Nat} {dvs : List V} {kws : List (Str × V)} (F : FunD K "__init__" "Heap.__init__" (defArgs sHInit) (defBody sHInit) (defScope sHInit) dvs kws f fd) (T : HpTxt K mg CH)
    (FT : Fun K "tiers_of" "tiers_of" sTiers fT fdT) (bT : Binds K fdT ["book", "row"] []) (gT : mg "tiers_of" = some (.ref fT)) (GT : FnOk P w K mg base (L2.CX P w) k fT fdT ["book", "row"] (spTiers K C CN)) :
    FnOk P w K mg base (L2.CX P w) (k + 1) f fd ["self", "book", "row"] (spHInit K C CH CN) := by
  refine F.ok (CX := L2.CX P w) scHInit (fun vs H Q E h => ?_) (fun cdv A outer s H vs Q E hr h => ?_)
  · obtain ⟨p, dx, bk, rv, cs, fs, row, rfl, _⟩ := h
    rfl
  · obtain ⟨p, dx, bk, rv, cs, fs, row, rfl, hp, hK, hG, hc, hrow, hrl, q, q1⟩ := h
    refine ⟨_, pss_cons (ps_fld (pv 0) (pv 1) rfl) (pss_one (ps_fld (pv 0) (pe_call GT hr (by rfl) gT FT.kp bT .nil (passes_call (takes_of rfl rfl rfl rfl) (fun _ _ _ _ h => h)) (pa_cons (pv 1) (pa_cons (pv 2) pa_nil))) rfl)), ?_⟩
    have hbp : bk ≠ p := fun z => by
      obtain ⟨d1, a1, b1, x1, h1, _⟩ := hK
      rw [z, hp] at h1
      cases h1
    refine ⟨.ref bk, rfl, .ref p, rfl, p, CH, dx, _, rfl, hp, T.cl, T.nO, (show 0 < 1000 by decide), ?_⟩
    have off : Off p H (upd H p (.ins CH dx (putF "owner" (.ref bk) []))) := Off.upd
    have hp1 : (upd H p (.ins CH dx (putF "owner" (.ref bk) []))) p = some (.ins CH dx [("owner", .ref bk)]) := upd_same
    have hK1 := hK.off off hp hbp
    have hr1 := sqA_off off hp hrow
    generalize upd H p (.ins CH dx (putF "owner" (.ref bk) [])) = H1 at off hp1 hK1 hr1 ⊢
    refine ⟨.ref bk, rfl, .ref rv, rfl, bk, rv, cs, fs, row, rfl, hK1, hG, hc, hr1, hrl, fun hin H2 t s2 ht => ?_, fun z hz d H2 s2 hd => q1 z hz d H2 (off.trans (Off.same s2)) hd⟩
    have hp2 := s2 _ _ hp1
    refine ⟨.ref p, rfl, p, CH, dx, _, rfl, hp2, T.cl, T.nT, (show 1 < 1000 by decide), ?_⟩
    have off2 : Off p H2 (upd H2 p (.ins CH dx (putF "tiers" (.ref t) [("owner", .ref bk)]))) := Off.upd
    exact q hin _ ((off.trans (Off.same s2)).trans off2) ⟨dx, t, upd_same, ht.ts (TS.ins off2 hp2)⟩
end
abbrev sHBook : Stmt := inClass (topS 53) 1
theorem scHBook : FnScope ["self"] ["self"] (defScope sHBook) := ⟨rfl, rfl, rfl, by decide +kernel, rfl, by decide +kernel, by decide +kernel⟩
def spHBook (K : PySem.W.Frag) (CH : Addr) : Sp := fun vs H Q _ => ∃ (p bk : Addr) (ts : List (List Int)), vs = [.ref p] ∧ HeapAt K CH H p bk ts ∧ Q (.ref bk) H
abbrev sHRow : Stmt := inClass (topS 53) 3
abbrev nHRow : List Str := ["self", "tier", "figure"]
theorem scHRow : FnScope nHRow ["self"] (defScope sHRow) := ⟨rfl, rfl, rfl, by decide +kernel, rfl, by decide +kernel, by decide +kernel⟩
def spHRow (K : PySem.W.Frag) (CH : Addr) : Sp := fun vs H Q _ => ∃ (p bk : Addr) (ts : List (List Int)), vs = [.ref p] ∧ HeapAt K CH H p bk ts ∧ ts.flatten.length ≤ 1000 ∧ ∀ H' l, Same H H' → H l = none → H' l = some (.lst (ts.flatten.map V.int)) → Q (.ref l) H'
abbrev sHLay : Stmt := inClass (topS 53) 2
abbrev nHLay : List Str := ["self", "tier"]
theorem scHLay : FnScope nHLay ["self"] (defScope sHLay) := ⟨rfl, rfl, rfl, by decide +kernel, rfl, by decide +kernel, by decide +kernel⟩
/-- a new list of new lists -/
def LstZ (K : PySem.W.Frag) (H : Hp) (v : V) (t : List Int) : Prop := ∃ a, v = .ref a ∧ SqL K H a (t.map V.int)
def spHLay (K : PySem.W.Frag) (CH : Addr) : Sp := fun vs H Q _ => ∃ (p bk : Addr) (ts : List (List Int)), vs = [.ref p] ∧ HeapAt K CH H p bk ts ∧ ts.length ≤ 1000 ∧ ∀ H' l xs, Same H H' → H l = none → H' l = some (.lst xs) → All2 (fun v t => ∃ a, v = .ref a ∧ H a = none ∧ H' a = some (.lst (t.map V.int))) xs ts → Q (.ref l) H'
theorem flat_take_snoc {α : Type} {ts : List (List α)} {i : Nat} {t : List α} (h : ts[i]? = some t) : (ts.take (i + 1)).flatten = (ts.take i).flatten ++ t := by
  rw [take_snoc h, List.flatten_append, List.flatten_cons, List.flatten_nil, List.append_nil]
theorem flat_take_le {α : Type} (ts : List (List α)) (i : Nat) : (ts.take i).flatten.length ≤ ts.flatten.length := by
  conv => rhs; rw [← List.take_append_drop i ts]
  rw [List.flatten_append, List.length_append]
  omega
section
variable {P : Program} {w : World} {K : PySem.W.Frag} {mg : Str → Option Value} {base : Heap}
theorem ok_hbook {f CH : Addr} {fd : FuncData} {k : Nat} (F : Fun K "book" "Heap.book" sHBook f fd) (T : HpTxt K mg CH) : FnOk P w K mg base CX0 (k + 1) f fd ["self"] (spHBook K CH) := by
  refine F.ok scHBook (fun vs H Q E h => ?_) (fun cdv A outer s H vs Q E hr h => ?_)
  · obtain ⟨p, bk, ts, rfl, _⟩ := h
    rfl
  · obtain ⟨p, bk, ts, rfl, ⟨dx, t, hp, ht⟩, q⟩ := h
    exact ⟨_, pss_one (ps_ret (pe_fld (pv 0) rfl)), .ref p, rfl, p, CH, dx, _, _, rfl, hp, T.cl, T.nO, hpF_owner bk t, q⟩
theorem ok_hrow {f CH : Addr} {fd : FuncData} {k : Nat} (F : Fun K "row" "Heap.row" sHRow f fd) (T : HpTxt K mg CH) : FnOk P w K mg base CX0 (k + 1) f fd ["self"] (spHRow K CH) := by
  refine F.ok scHRow (fun vs H Q E h => ?_) (fun cdv A outer s H vs Q E hr h => ?_)
  · obtain ⟨p, bk, ts, rfl, _⟩ := h
    rfl
  · obtain ⟨p, bk, ts, rfl, ⟨dx, t, hp, xs, ht, hxs⟩, hl, q⟩ := h
    refine ⟨_, pss_one (ps_ret (pe_lc2 (own := [("tier", 1), ("figure", 2)]) (vs1 := [2]) (g := gName 1) (tt := tYes) (wi1 := iTup K (tVar 1)) (g1 := gName 2) (tt1 := tYes) (te := tVar 2) rfl scHRow.nd (pi_tup (pe_fld (pv 0) rfl))
      (blkOk_by (own := [("tier", 1), ("figure", 2)]) (N := nHRow) (sc := defScope sHRow) (by decide +kernel)) (by decide) (fun _ _ _ _ _ => pg_name (i := 1) scHRow.nd rfl (.inl rfl)) (fun _ _ _ _ _ => pts_nil)
      (fun _ _ _ _ _ => pi_tup (pv 1)) (fun _ _ _ _ _ => pg_name (i := 2) scHRow.nd rfl (.inl rfl)) (fun _ _ _ _ _ => pts_nil) (fun _ _ _ _ _ => pv 2))), ?_⟩
    refine ⟨.ref p, rfl, p, CH, dx, _, _, rfl, hp, T.cl, T.nT, hpF_tiers bk t, t, rfl, ⟨_, ht⟩, fun D nD => ?_⟩
    refine outer_it (walk_tup (K := K) (a := t) (xs := xs)) (fun i H' => Same H H' ∧ H' D = some (.lst ((ts.take i).flatten.map V.int))) ⟨same_upd nD, upd_same⟩ (fun i H' _ hP => Same.tup hP.1 ht) (fun i x H' H'' hi hP hY => ?_) (fun H1 hP => ?_)
    · obtain ⟨sm, hD⟩ := hP
      obtain ⟨rfl, hx⟩ := hY
      obtain ⟨tr, htr, ta, rfl, hta⟩ := hxs.get hx
      refine ⟨rfl, yesT ⟨.ref ta, rfl, ta, rfl, ⟨_, Same.tup sm hta⟩, ?_⟩⟩
      refine inner_it (walk_tup (K := K) (a := ta) (xs := tr.map V.int)) (fun j H' => Same H H' ∧ H' D = some (.lst (((ts.take i).flatten ++ tr.take j).map V.int))) ⟨sm, by rw [List.take_zero, List.append_nil]; exact hD⟩ (fun j H' _ hP => Same.tup hP.1 hta) (fun j y H' H'' hj hP hY => ?_) (fun H2 hP => ?_)
      · obtain ⟨sm2, hD2⟩ := hP
        obtain ⟨rfl, hy⟩ := hY
        rw [List.getElem?_map] at hy
        cases hp2 : tr[j]? with
        | none => rw [hp2] at hy; cases hy
        | some z =>
          rw [hp2] at hy
          obtain rfl := Option.some.inj hy
          have l1 := flat_take_le ts (i + 1)
          rw [flat_take_snoc htr, List.length_append] at l1
          refine ⟨rfl, yesT ⟨.int z, rfl, _, hD2, ?_, Same.offUpd sm2 nD, ?_⟩⟩
          · rw [List.length_map, List.length_append, List.length_take]
            exact small1000 (by omega)
          · rw [upd_same, take_snoc hp2, ← List.append_assoc, List.map_append (l₂ := [z])]
            rfl
      · obtain ⟨sm2, hD2⟩ := hP
        rw [List.length_map, List.take_length, ← flat_take_snoc htr] at hD2
        exact ⟨sm2, hD2⟩
    · obtain ⟨sm, hD⟩ := hP
      rw [hxs.len, List.take_length] at hD
      exact q H1 D sm nD hD
theorem ok_hlay {f CH : Addr} {fd : FuncData} {k : Nat} (F : Fun K "layers" "Heap.layers" sHLay f fd) (T : HpTxt K mg CH) (ml : mg "list" = none) : FnOk P w K mg base CX0 (k + 1) f fd ["self"] (spHLay K CH) := by
  refine F.ok scHLay (fun vs H Q E h => ?_) (fun cdv A outer s H vs Q E hr h => ?_)
  · obtain ⟨p, bk, ts, rfl, _⟩ := h
    rfl
  · obtain ⟨p, bk, ts, rfl, ⟨dx, t, hp, xs, ht, hxs⟩, hl, q⟩ := h
    refine ⟨_, pss_one (ps_ret (pe_lc (own := [("tier", 1)]) (g := gName 1) (tt := tYes) rfl scHLay.nd (pi_tup (pe_fld (pv 0) rfl))
      (blkOk_by (own := [("tier", 1)]) (N := nHLay) (sc := defScope sHLay) (by decide +kernel)) (fun _ _ _ _ _ => pg_name (i := 1) scHLay.nd rfl (.inl rfl)) (fun _ _ _ _ _ => pts_nil)
      (fun _ _ _ _ _ => pe_callTy (r := rLof K) call_listK (by rfl) ml (by decide +kernel) (pa_cons (pv 1) pa_nil)))), ?_⟩
    refine ⟨.ref p, rfl, p, CH, dx, _, _, rfl, hp, T.cl, T.nT, hpF_tiers bk t, t, rfl, ⟨_, ht⟩, fun D nD => ?_⟩
    refine lc_tup (K := K) (a := t) (xs := xs) (fun i H' => Same H H' ∧ ∃ zs, H' D = some (.lst zs) ∧ All2 (fun v t => ∃ a, v = .ref a ∧ a ≠ D ∧ H a = none ∧ H' a = some (.lst (t.map V.int))) zs (ts.take i)) ⟨same_upd nD, [], upd_same, True.intro⟩ (fun i H' _ hP => Same.tup hP.1 ht) (fun i x H' hx hP => ?_) (fun H1 hP => ?_)
    · obtain ⟨sm, zs, hD, hz⟩ := hP
      obtain ⟨tr, htr, ta, rfl, hta⟩ := hxs.get hx
      have hzl := hz.len
      rw [List.length_take] at hzl
      refine ⟨rfl, yesT ⟨.ref ta, rfl, ta, _, rfl, .inr (Same.tup sm hta), fun l nl => ?_⟩⟩
      have u := same_upd (o := .lst (tr.map V.int)) nl
      have hD2 := u _ _ hD
      have hlD : l ≠ D := fun z => by rw [z, hD] at nl; cases nl
      refine ⟨_, hD2, small1000 (by omega), Same.offUpd (sm.trans u) nD, zs ++ [.ref l], upd_same, ?_⟩
      rw [take_snoc htr]
      refine All2.snoc ⟨l, rfl, hlD, sm.free nl, by rw [upd_ne hlD]; exact upd_same⟩ (hz.mono fun v t ⟨a, e1, e2, e3, e4⟩ => ⟨a, e1, e2, e3, by rw [upd_ne e2]; exact u _ _ e4⟩)
    · obtain ⟨sm, zs, hD, hz⟩ := hP
      rw [hxs.len, List.take_length] at hz
      exact q H1 D zs sm nD hD (hz.mono fun v t ⟨a, e1, e2, e3, e4⟩ => ⟨a, e1, e3, e4⟩)
end
abbrev sHLen : Stmt := inClass (topS 53) 17
theorem scHLen : FnScope ["self"] ["self"] (defScope sHLen) := ⟨rfl, rfl, rfl, by decide +kernel, rfl, by decide +kernel, by decide +kernel⟩
def spHLen (K : PySem.W.Frag) (CH : Addr) : Sp := fun vs H Q _ => ∃ (p bk : Addr) (ts : List (List Int)), vs = [.ref p] ∧ HeapAt K CH H p bk ts ∧ ts.flatten.length ≤ 1000 ∧ ∀ H', Same H H' → Q (.int (ts.flatten.length : Nat)) H'
section
variable {P : Program} {w : World} {K : PySem.W.Frag} {mg : Str → Option Value} {base : Heap}
theorem ok_hlen {f CH fR : Addr} {fd fdR : FuncData} {k : Nat} (F : Fun K "__len__" "Heap.__len__" sHLen f fd) (T : HpTxt K mg CH) (ml : mg "len" = none)
    (bR : Binds K fdR ["self"] []) (mR : Meth K CH "row" fR) (GR : FnOk P w K mg base CX0 k fR fdR ["self"] (spHRow K CH)) : FnOk P w K mg base CX0 (k + 1) f fd ["self"] (spHLen K CH) := by
  refine F.ok scHLen (fun vs H Q E h => ?_) (fun cdv A outer s H vs Q E hr h => ?_)
  · obtain ⟨p, bk, ts, rfl, _⟩ := h
    rfl
  · obtain ⟨p, bk, ts, rfl, hH, hl, q⟩ := h
    obtain ⟨dx, t, hp, ht⟩ := id hH
    refine ⟨_, pss_one (ps_ret (pe_callB call_lenQ (by rfl) ml PySem.boot_len (pa_cons (pe_meth0 (pv 0) T.cl mR GR hr bR .nil pass0) pa_nil))), ?_⟩
    refine ⟨.ref p, rfl, p, dx, _, rfl, hp, rfl, p, bk, ts, rfl, hH, hl, fun H' l s' _ hl' => ⟨l, _, rfl, .inl (SqL.of hl'), ?_⟩⟩
    rw [List.length_map]
    exact q H' s'
end
/-! ### the default of Heap's row and of Book's figures: the tuple without things -/
def emptyB (K : PySem.W.Frag) (a : Addr) : Bool := match K.lookup a with
  | some ⟨.type c, _, .seq its _, _⟩ => decide (c = "tuple") && decide (its.size = 0)
  | _ => false
theorem emptyB_ok {K : PySem.W.Frag} {a : Addr} (h : emptyB K a = true) (H : Hp) : SqT K H a [] := by
  unfold emptyB at h
  split at h
  · rename_i c od its n sl e
    obtain ⟨h1, h2⟩ := He.ba h
    have h1 := of_decide_eq_true h1
    have h2 := of_decide_eq_true h2
    subst h1
    obtain rfl : its = #[] := Array.eq_empty_of_size_eq_zero h2
    exact .inr ⟨_, #[], n, e, rfl, rfl, Nat.zero_le _, .nil⟩
  · cases h
/-- the first default of a method -/
def dflOf (K : PySem.W.Frag) (C m : Str) : Addr := match K.lookup (He.ma K (He.ga K C) m) with
  | some ⟨_, _, .func fd, _⟩ => (match fd.defaults with
    | .ref T => (match K.lookup T with
      | some ⟨_, _, .seq its _, _⟩ => (match its.toList with
        | .ref a :: _ => a
        | _ => 0)
      | _ => 0)
    | _ => 0)
  | _ => 0
def emptyH (K : PySem.W.Frag) : Addr := dflOf K "Heap" "__init__"
/-- the default of Book's figures -/
def emptyT (K : PySem.W.Frag) : Addr := match K.lookup (He.ma K (He.ga K "Book") "__init__") with
  | some ⟨_, _, .func fd, _⟩ => (match fd.kwdefaults with
    | .ref D => (match PySem.W.nsIn K D "figures" with
      | some (some (.ref a)) => a
      | _ => 0)
    | _ => 0)
  | _ => 0
/-! ### data of tuples; Book.__eq__, Heap.__eq__ -/
theorem eqvAll_map {α : Type} [DecidableEq α] (f : α → PyData) (h : ∀ a b, PyData.eqv (f a) (f b) = decide (a = b)) : ∀ as bs : List α, PyData.eqvAll (as.map f) (bs.map f) = decide (as = bs)
  | [], [] => by simp [PyData.eqvAll]
  | [], _ :: _ => by simp [PyData.eqvAll]
  | _ :: _, [] => by simp [PyData.eqvAll]
  | a :: as, b :: bs => by
    simp only [List.map_cons, PyData.eqvAll, h a b, eqvAll_map f h as bs]
    by_cases e : a = b <;> by_cases e' : as = bs <;> simp [e, e']
theorem layAll_map {α : Type} (f : α → PyData) (h : ∀ a, PyData.canLay0 (f a) = true) : ∀ as : List α, PyData.canLayAll0 (as.map f) = true
  | [] => by simp [PyData.canLayAll0]
  | a :: as => by simp [PyData.canLayAll0, h a, layAll_map f h as]
theorem depthAll_map {α : Type} (f : α → PyData) (n : Nat) (h : ∀ a, PyData.depth (f a) ≤ n) : ∀ as : List α, PyData.depthAll (as.map f) ≤ n
  | [] => by simp [PyData.depthAll]
  | a :: as => by
    simp only [List.map_cons, PyData.depthAll]
    have := h a
    have := depthAll_map f n h as
    omega
def zD (t : List Int) : PyData := .tuple (t.map PyData.int)
def tiersD (ts : List (List Int)) : PyData := .tuple (ts.map zD)
def triD (t : Tri) : PyData := .tuple [.int t.1, .int t.2.1, .int t.2.2]
def figD (f : List Tri) : PyData := .tuple (f.map triD)
def figsD (fs : List (List Tri)) : PyData := .tuple (fs.map figD)
theorem shaped_of {d : PyData} (h : PyData.canLay0 d = true) (n : PyData.depth d ≤ 64) : SeqAt.shaped d = true := by
  show (PyData.canLay0 _ && decide (PyData.depth _ ≤ 64)) = true
  rw [Bool.and_eq_true]
  exact ⟨h, decide_eq_true n⟩
theorem zD_lay (t : List Int) : PyData.canLay0 (zD t) = true ∧ PyData.depth (zD t) ≤ 1 := ⟨by simp [zD, PyData.canLay0, canLay_ints], by simp [zD, PyData.depth, depth_ints]⟩
theorem zD_eqv (a b : List Int) : PyData.eqv (zD a) (zD b) = decide (a = b) := eqvT a b
theorem tiersD_sh (ts : List (List Int)) : SeqAt.shaped (tiersD ts) = true := by
  refine shaped_of ?_ ?_
  · simp only [tiersD, PyData.canLay0]
    exact layAll_map zD (fun a => (zD_lay a).1) ts
  · simp only [tiersD, PyData.depth]
    have := depthAll_map zD 1 (fun a => (zD_lay a).2) ts
    omega
theorem tiersD_eqv (a b : List (List Int)) : PyData.eqv (tiersD a) (tiersD b) = decide (a = b) := by
  simp only [tiersD, PyData.eqv]
  exact eqvAll_map zD zD_eqv a b
theorem triD_lay (t : Tri) : PyData.canLay0 (triD t) = true ∧ PyData.depth (triD t) ≤ 1 := ⟨by simp [triD, PyData.canLay0, PyData.canLayAll0], by simp [triD, PyData.depth, PyData.depthAll]⟩
theorem triD_eqv (a b : Tri) : PyData.eqv (triD a) (triD b) = decide (a = b) := by
  obtain ⟨a1, a2, a3⟩ := a
  obtain ⟨b1, b2, b3⟩ := b
  simp only [triD, PyData.eqv, PyData.eqvAll]
  by_cases h1 : a1 = b1 <;> by_cases h2 : a2 = b2 <;> by_cases h3 : a3 = b3 <;> simp [h1, h2, h3]
theorem figD_lay (f : List Tri) : PyData.canLay0 (figD f) = true ∧ PyData.depth (figD f) ≤ 2 := by
  refine ⟨?_, ?_⟩
  · simp only [figD, PyData.canLay0]
    exact layAll_map triD (fun a => (triD_lay a).1) f
  · simp only [figD, PyData.depth]
    have := depthAll_map triD 1 (fun a => (triD_lay a).2) f
    omega
theorem figD_eqv (a b : List Tri) : PyData.eqv (figD a) (figD b) = decide (a = b) := by
  simp only [figD, PyData.eqv]
  exact eqvAll_map triD triD_eqv a b
theorem figsD_sh (fs : List (List Tri)) : SeqAt.shaped (figsD fs) = true := by
  refine shaped_of ?_ ?_
  · simp only [figsD, PyData.canLay0]
    exact layAll_map figD (fun a => (figD_lay a).1) fs
  · simp only [figsD, PyData.depth]
    have := depthAll_map figD 2 (fun a => (figD_lay a).2) fs
    omega
theorem figsD_eqv (a b : List (List Tri)) : PyData.eqv (figsD a) (figsD b) = decide (a = b) := by
  simp only [figsD, PyData.eqv]
  exact eqvAll_map figD figD_eqv a b
theorem dpAll_of {K : PySem.W.Frag} {H : Hp} {α : Type} {R : V → α → Prop} (f : α → PyData) (h : ∀ v a, R v a → Dp K H v (f a)) : ∀ {xs : List V} {as : List α}, All2 R xs as → DpAll K H xs (as.map f)
  | [], [], _ => .nil
  | x :: xs, a :: as, r => .cons (h x a r.1) (dpAll_of f h r.2)
  | [], _ :: _, r => r.elim
  | _ :: _, [], r => r.elim
theorem TiersT.dp {K : PySem.W.Frag} {H : Hp} {t : Addr} {ts : List (List Int)} (h : TiersT K H t ts) : Dp K H (.ref t) (tiersD ts) := by
  obtain ⟨xs, h1, h2⟩ := h
  exact .tup h1 (dpAll_of zD (fun v a ⟨b, e, hb⟩ => by subst e; exact dpT hb) h2)
theorem figs_dp {K : PySem.W.Frag} {H : Hp} {b : Addr} {xs : List V} {fs : List (List Tri)} (h1 : SqT K H b xs) (h2 : All2 (FigT K H) xs fs) : Dp K H (.ref b) (figsD fs) :=
  .tup h1 (dpAll_of figD (fun v f ⟨c, ys, e, hc, hy⟩ => by
    subst e
    exact .tup hc (dpAll_of triD (fun v t ⟨d, e, hd⟩ => by
      subst e
      exact .tup hd (.cons (.int _) (.cons (.int _) (.cons (.int _) .nil)))) hy)) h2)
/-- a class with an own __eq__, asked by isinstance -/
structure ClsE (K : PySem.W.Frag) (C f : Addr) : Prop extends EqTxt K C f where
  ac : PySem.W.findIn K (.ref C) "__class__" = some (some (.builtin "object.__class__"))
  gt : PySem.W.specialIn K (.builtin "object.__class__") "__get__" = some (some (.builtin "getset_descriptor.__get__"))
  tk : PySem.W.takesIn K (.builtin "object.__class__") = some true
def clsEB (K : PySem.W.Frag) (C f : Addr) : Bool :=
  He.eqO (PySem.W.findIn K (.ref C) "__eq__") (some (some (.ref f))) && (He.eqO (PySem.W.findIn K (.ref C) "__ne__") (some (some (.builtin "object.__ne__"))) && (PySem.W.isFn K (.ref f) && (decide (PySem.W.mroIn K C (.type "object") = some true) &&
  (He.eqO (PySem.W.findIn K (.ref C) "__class__") (some (some (.builtin "object.__class__"))) && (He.eqO (PySem.W.specialIn K (.builtin "object.__class__") "__get__") (some (some (.builtin "getset_descriptor.__get__"))) && decide (PySem.W.takesIn K (.builtin "object.__class__") = some true))))))
theorem clsEB_ok {K : PySem.W.Frag} {C f : Addr} (h : clsEB K C f = true) : ClsE K C f := by
  obtain ⟨h1, h⟩ := He.ba h
  obtain ⟨h2, h⟩ := He.ba h
  obtain ⟨h3, h⟩ := He.ba h
  obtain ⟨h4, h⟩ := He.ba h
  obtain ⟨h5, h⟩ := He.ba h
  obtain ⟨h6, h7⟩ := He.ba h
  exact ⟨⟨He.eqO_ok h1, He.eqO_ok h2, h3, of_decide_eq_true h4⟩, He.eqO_ok h5, He.eqO_ok h6, of_decide_eq_true h7⟩
theorem ClsE.ty {K : PySem.W.Frag} {C f : Addr} (E : ClsE K C f) (cl : Cls K C) {H : Hp} {a dx : Addr} {fs : List (Str × V)} (h : H a = some (.ins C dx fs)) : TyX K H (.ref a) (.ref C) := .base (.ins h cl E.ac E.gt E.tk E.ob)
theorem kit_self {K : PySem.W.Frag} {C : Addr} : PySem.W.kitOne K (.ref C) (.ref C) = some true := by
  unfold PySem.W.kitOne
  rw [if_pos (by simp)]
theorem first_self {K : PySem.W.Frag} {C : Addr} : PySem.W.notFirst K C (.ref C) = true := by
  unfold PySem.W.notFirst
  rw [Bool.or_eq_true]
  exact .inl (by simp)
abbrev sBEq : Stmt := inClass (topS 38) 9
abbrev nBEq : List Str := ["self", "other"]
theorem scBEq : FnScope nBEq ["self", "other"] (defScope sBEq) := ⟨rfl, rfl, rfl, by decide +kernel, rfl, by decide +kernel, by decide +kernel⟩
def spBEq (K : PySem.W.Frag) (C : Addr) : Sp := fun vs H Q _ => ∃ (p : Addr) (y : V) (cs : List Int) (fs : List (List Tri)), vs = [.ref p, y] ∧ BookAt K C H p cs fs ∧
  ((∃ (q : Addr) (cs' : List Int) (fs' : List (List Tri)), y = .ref q ∧ BookAt K C H q cs' fs' ∧ Q (.bl (decide (cs = cs' ∧ fs = fs'))) H) ∨ ∃ t, TyX K H y t ∧ PySem.W.kitOne K t (.ref C) = some false ∧ Q (.bl false) H)
theorem bkF_pal (a b : Addr) : List.lookup (Str.ofString "palette") (bkF a b) = some (V.ref a) := rfl
section
variable {P : Program} {w : World} {K : PySem.W.Frag} {mg : Str → Option Value} {base : Heap}
theorem ok_beq {f C : Addr} {fd : FuncData} {k : Nat} (F : Fun K "__eq__" "Book.__eq__" sBEq f fd) (T : BkTxt K mg C) (TE : ClsE K C f) (mi : mg "isinstance" = none) : FnOk P w K mg base CX0 (k + 1) f fd ["self", "other"] (spBEq K C) := by
  refine F.ok scBEq (fun vs H Q E h => ?_) (fun cdv A outer s H vs Q E hr h => ?_)
  · obtain ⟨p, y, cs, fs, rfl, _⟩ := h
    rfl
  · obtain ⟨p, y, cs, fs, rfl, ⟨dx, a, b, xs, hp, ha, hb, hA⟩, q⟩ := h
    refine ⟨_, pss_one (ps_ret (pe_and (pe_callB call_isi (by rfl) mi (by decide +kernel) (pa_cons (pv 1) (pa_cons (pe_glob (v := .ref C) (by rfl) T.mgC rfl) pa_nil)))
      (pe_and (pe_cmpR (op_eqD hr.units) (pe_fld (pv 0) rfl) (pe_fld (pv 1) rfl) (nomark _)) (pe_one (pe_cmpR (op_eqD hr.units) (pe_fld (pv 0) rfl) (pe_fld (pv 1) rfl) (nomark _)))))), ?_⟩
    rcases q with ⟨q0, cs', fs', rfl, ⟨dx', a', b', xs', hp', ha', hb', hA'⟩, q⟩ | ⟨t, ty, kt, q⟩
    · refine ⟨.ref q0, rfl, .ref q0, .ref C, _, _, true, rfl, .own C, TE.ty T.cl hp', kit_self, _, rfl, iteT ?_⟩
      refine ⟨.ref p, rfl, p, C, dx, _, _, rfl, hp, T.cl, T.nP, bkF_pal a b, .ref q0, rfl, q0, C, dx', _, _, rfl, hp', T.cl, T.nP, bkF_pal a' b', _, _, dpT ha, dpT ha', shT cs, shT cs', _, rfl, ?_⟩
      rw [eqvT]
      by_cases e : cs = cs'
      · rw [decide_eq_true e]
        refine iteT ⟨.ref p, rfl, p, C, dx, _, _, rfl, hp, T.cl, T.nS, bkF_shapesX a b, .ref q0, rfl, q0, C, dx', _, _, rfl, hp', T.cl, T.nS, bkF_shapesX a' b', _, _, figs_dp hb hA, figs_dp hb' hA', figsD_sh fs, figsD_sh fs', ?_⟩
        rw [figsD_eqv]
        rw [show decide (fs = fs') = decide (cs = cs' ∧ fs = fs') from by simp [e]]
        exact q
      · rw [decide_eq_false e]
        refine iteF ?_
        rw [show decide (cs = cs' ∧ fs = fs') = false from by simp [e]] at q
        exact q
    · exact ⟨y, rfl, y, .ref C, _, _, false, rfl, .own C, ty, kt, _, rfl, iteF q⟩
end
abbrev sHEq : Stmt := inClass (topS 53) 18
theorem scHEq : FnScope nBEq ["self", "other"] (defScope sHEq) := ⟨rfl, rfl, rfl, by decide +kernel, rfl, by decide +kernel, by decide +kernel⟩
def spHEq (K : PySem.W.Frag) (C CH : Addr) : Sp := fun vs H Q _ => ∃ (p bk : Addr) (y : V) (cs : List Int) (fs : List (List Tri)) (ts : List (List Int)), vs = [.ref p, y] ∧ HeapAt K CH H p bk ts ∧ BookAt K C H bk cs fs ∧
  ((∃ (q bk' : Addr) (cs' : List Int) (fs' : List (List Tri)) (ts' : List (List Int)), y = .ref q ∧ HeapAt K CH H q bk' ts' ∧ BookAt K C H bk' cs' fs' ∧ Q (.bl (decide ((cs = cs' ∧ fs = fs') ∧ ts = ts'))) H) ∨ ∃ t, TyX K H y t ∧ PySem.W.kitOne K t (.ref CH) = some false ∧ Q (.bl false) H)
section
variable {P : Program} {w : World} {K : PySem.W.Frag} {mg : Str → Option Value} {base : Heap}
theorem ok_heq {f C CH fE : Addr} {fd fdE : FuncData} {k : Nat} (F : Fun K "__eq__" "Heap.__eq__" sHEq f fd) (T : HpTxt K mg CH) (TE : ClsE K CH f) (TB : BkTxt K mg C) (TBE : ClsE K C fE) (mi : mg "isinstance" = none)
    (bE : Binds K fdE ["self", "other"] []) (GE : FnOk P w K mg base CX0 k fE fdE ["self", "other"] (spBEq K C)) : FnOk P w K mg base CX0 (k + 1) f fd ["self", "other"] (spHEq K C CH) := by
  refine F.ok scHEq (fun vs H Q E h => ?_) (fun cdv A outer s H vs Q E hr h => ?_)
  · obtain ⟨p, bk, y, cs, fs, ts, rfl, _⟩ := h
    rfl
  · obtain ⟨p, bk, y, cs, fs, ts, rfl, ⟨dx, t, hp, ht⟩, hK, q⟩ := h
    refine ⟨_, pss_one (ps_ret (pe_and (pe_callB call_isi (by rfl) mi (by decide +kernel) (pa_cons (pv 1) (pa_cons (pe_glob (v := .ref CH) (by rfl) T.mgC rfl) pa_nil)))
      (pe_and (pe_cmpR (op_eqOwn TBE.toEqTxt GE bE pass0 hr) (pe_fld (pv 0) rfl) (pe_fld (pv 1) rfl) (nomark _)) (pe_one (pe_cmpR (op_eqD hr.units) (pe_fld (pv 0) rfl) (pe_fld (pv 1) rfl) (nomark _)))))), ?_⟩
    rcases q with ⟨q0, bk', cs', fs', ts', rfl, ⟨dx', t', hp', ht'⟩, hK', q⟩ | ⟨ty0, ty, kt, q⟩
    · obtain ⟨e1, e2, e3, e4, hbk, _⟩ := id hK
      obtain ⟨e1', e2', e3', e4', hbk', _⟩ := id hK'
      refine ⟨.ref q0, rfl, .ref q0, .ref CH, _, _, true, rfl, .own CH, TE.ty T.cl hp', kit_self, _, rfl, iteT ?_⟩
      refine ⟨.ref p, rfl, p, CH, dx, _, _, rfl, hp, T.cl, T.nO, hpF_owner bk t, .ref q0, rfl, q0, CH, dx', _, _, rfl, hp', T.cl, T.nO, hpF_owner bk' t', bk, _, _, _, rfl, hbk, TBE.ty TB.cl hbk', first_self, bk, .ref bk', cs, fs, rfl, hK, .inl ⟨bk', cs', fs', rfl, hK', _, rfl, _, rfl, ?_⟩⟩
      by_cases e : cs = cs' ∧ fs = fs'
      · rw [decide_eq_true e]
        refine iteT ⟨.ref p, rfl, p, CH, dx, _, _, rfl, hp, T.cl, T.nT, hpF_tiers bk t, .ref q0, rfl, q0, CH, dx', _, _, rfl, hp', T.cl, T.nT, hpF_tiers bk' t', _, _, ht.dp, ht'.dp, tiersD_sh ts, tiersD_sh ts', ?_⟩
        rw [tiersD_eqv]
        rw [show decide (ts = ts') = decide ((cs = cs' ∧ fs = fs') ∧ ts = ts') from by simp [e]]
        exact q
      · rw [decide_eq_false e]
        refine iteF ?_
        rw [show decide ((cs = cs' ∧ fs = fs') ∧ ts = ts') = false from decide_eq_false (fun z => e z.1)] at q
        exact q
    · exact ⟨y, rfl, y, .ref CH, _, _, false, rfl, .own CH, ty, kt, _, rfl, iteF q⟩
end
/-! ### check_book -/
abbrev exc0 (nm : Str) (C : Addr) (P : Program) (w : World) (K : PySem.W.Frag) (mg : Str → Option Value) (base : Heap) (k : Nat) : Prop := ExcK P w K mg base k nm C 0 (fun _ => [("word", .str nm)])
/-- a heap of a row of a book's figures -/
structure HpOf (K : PySem.W.Frag) (C CH : Addr) (H : Hp) (p bk : Addr) (cs : List Int) (fs : List (List Tri)) (row : List Int) : Prop where
  hp : HeapAt K CH H p bk (tiersM fs row)
  bk : BookAt K C H bk cs fs
  good : ∀ f ∈ fs, GoodF cs f
  len : cs.length ≤ 100
  inn : ∀ x ∈ row, InF fs x
theorem HpOf.same {K : PySem.W.Frag} {C CH : Addr} {H H' : Hp} {p bk : Addr} {cs : List Int} {fs : List (List Tri)} {row : List Int} (h : HpOf K C CH H p bk cs fs row) (e : Same H H') : HpOf K C CH H' p bk cs fs row :=
  ⟨h.hp.same e, h.bk.same e, h.good, h.len, h.inn⟩
abbrev sHChk : Stmt := inClass (topS 53) 16
theorem scHChk : FnScope nBEq ["self", "other"] (defScope sHChk) := ⟨rfl, rfl, rfl, by decide +kernel, rfl, by decide +kernel, by decide +kernel⟩
def spHChk (K : PySem.W.Frag) (C CH CO : Addr) : Sp := fun vs H Q E => ∃ (p q bk bk' : Addr) (cs cs' : List Int) (fs fs' : List (List Tri)) (ts ts' : List (List Int)), vs = [.ref p, .ref q] ∧ HeapAt K CH H p bk ts ∧ HeapAt K CH H q bk' ts' ∧ BookAt K C H bk cs fs ∧ BookAt K C H bk' cs' fs' ∧
  (cs = cs' ∧ fs = fs' → Q .non H) ∧ (¬ (cs = cs' ∧ fs = fs') → refuseN 7 CO [] H E)
section
variable {P : Program} {w : World} {K : PySem.W.Frag} {mg : Str → Option Value} {base : Heap}
theorem ok_hchk {f C CH CO fE fB : Addr} {fd fdE fdB : FuncData} {k : Nat} (F : Fun K "check_book" "Heap.check_book" sHChk f fd) (T : HpTxt K mg CH) (TB : BkTxt K mg C) (TBE : ClsE K C fE) (R : exc0 "OtherBook" CO P w K mg base k)
    (bE : Binds K fdE ["self", "other"] []) (GE : FnOk P w K mg base CX0 k fE fdE ["self", "other"] (spBEq K C)) (bB : Binds K fdB ["self"] []) (mB : Meth K CH "book" fB) (GB : FnOk P w K mg base CX0 (k + 1) fB fdB ["self"] (spHBook K CH)) :
    FnOk P w K mg base (L2.CX P w) (k + 2) f fd ["self", "other"] (spHChk K C CH CO) := by
  refine F.okX scHChk (fun vs H Q E h => ?_) (fun cdv A outer s H vs Q E hr h => ?_)
  · obtain ⟨p, q, bk, bk', cs, cs', fs, fs', ts, ts', rfl, _⟩ := h
    rfl
  · obtain ⟨p, q, bk, bk', cs, cs', fs, fs', ts, ts', rfl, ⟨dx, t, hp, ht⟩, hQ, hK, hK', q0, q1⟩ := h
    refine ⟨_, pss_one (ps_if (pt_cmpR (op_neOwn TBE.toEqTxt GE bE pass0 hr) (pe_fld (pv 0) rfl) (pe_meth0 (pv 1) T.cl mB GB hr bB .nil pass0) (nomark _)) (pss_one (ps_raise rfl (takes_of rfl rfl rfl rfl) (pmk_ref0 R hr (by rfl)))) pss_nil), ?_⟩
    obtain ⟨dx', t', hp', ht'⟩ := id hQ
    obtain ⟨e1, e2, e3, e4, hbk, _⟩ := id hK
    obtain ⟨e1', e2', e3', e4', hbk', _⟩ := id hK'
    refine ⟨.ref p, rfl, p, CH, dx, _, _, rfl, hp, T.cl, T.nO, hpF_owner bk t, .ref q, rfl, q, dx', _, rfl, hp', rfl, q, bk', ts', rfl, hQ, bk, _, _, _, rfl, hbk, TBE.ty TB.cl hbk', first_self, bk, .ref bk', cs, fs, rfl, hK, .inl ⟨bk', cs', fs', rfl, hK', _, rfl, _, rfl, ?_⟩⟩
    by_cases e : cs = cs' ∧ fs = fs'
    · rw [decide_eq_true e]
      exact iteF (q0 e)
    · rw [decide_eq_false e]
      exact iteT ⟨rfl, Nat.zero_le _, fun dd H2 h1 h2 h3 => q1 e dd H2 (same_ref h1 h2) h3⟩
end
/-! ### plus -/
abbrev sHPlus : Stmt := inClass (topS 53) 10
theorem scHPlus : FnScope nBEq ["self", "other"] (defScope sHPlus) := ⟨rfl, rfl, rfl, by decide +kernel, rfl, by decide +kernel, by decide +kernel⟩
def spHPlus (K : PySem.W.Frag) (C CH CO : Addr) : Sp := fun vs H Q E => ∃ (p q bk bk' : Addr) (cs cs' : List Int) (fs fs' : List (List Tri)) (r s : List Int), vs = [.ref p, .ref q] ∧ HpOf K C CH H p bk cs fs r ∧ HpOf K C CH H q bk' cs' fs' s ∧ r.length + s.length ≤ 1000 ∧
  (cs = cs' ∧ fs = fs' → ∀ H' x, Same H H' → H x = none → HpOf K C CH H' x bk cs fs (r ++ s) → Q (.ref x) H') ∧ (¬ (cs = cs' ∧ fs = fs') → refuseN 7 CO [] H E)
/-- a new heap -/
theorem hmake {K : PySem.W.Frag} {C CH CN : Addr} {H1 : Hp} {bk rv : Addr} {cs : List Int} {fs : List (List Tri)} {row : List Int} {Q : VK} {E : XK} (hK : BookAt K C H1 bk cs fs) (hG : ∀ f ∈ fs, GoodF cs f) (hc : cs.length ≤ 100) (hr : SqA K H1 rv (row.map V.int)) (hl : row.length ≤ 1000) (hin : ∀ x ∈ row, InF fs x)
    (q : ∀ H' x, Same H1 H' → H1 x = none → HpOf K C CH H' x bk cs fs row → Q (.ref x) H') : ∀ x dx, H1 x = none → H1 dx = none → dx ≠ x → spHInit K C CH CN [.ref x, .ref bk, .ref rv] (upd (upd H1 dx (.own x)) x (.ins CH dx [])) (fun v H2 => v = .non ∧ Q (.ref x) H2) E := by
  intro x dx nx ndx nxd
  have v1 := same_upd (o := .own x) ndx
  have nx1 : (upd H1 dx (.own x)) x = none := by
    rw [upd_ne nxd.symm]
    exact nx
  have v2 := same_upd (o := .ins CH dx []) nx1
  have v12 := v1.trans v2
  refine ⟨x, dx, bk, rv, cs, fs, row, rfl, upd_same, hK.same v12, hG, hc, same_any v12 hr, hl, fun _ H' off hh => ⟨rfl, ?_⟩, fun z hz => ?_⟩
  · have s14 : Same H1 H' := fun bb oo ee => off bb oo (ne_of_none ee nx) (v12 _ _ ee)
    exact q H' x s14 nx ⟨hh, hK.same s14, hG, hc, hin⟩
  · have h1 := List.find?_some hz
    have h2 := hin z (List.mem_of_find?_eq_some hz)
    simp [h2] at h1
section
variable {P : Program} {w : World} {K : PySem.W.Frag} {mg : Str → Option Value} {base : Heap}
theorem ok_hplus {f C CH CO CN fC fR fI : Addr} {fd fdC fdR fdI : FuncData} {k : Nat} (F : Fun K "plus" "Heap.plus" sHPlus f fd) (T : HpTxt K mg CH)
    (bC : Binds K fdC ["self", "other"] []) (mC : Meth K CH "check_book" fC) (GC : FnOk P w K mg base (L2.CX P w) (k + 1) fC fdC ["self", "other"] (spHChk K C CH CO))
    (bR : Binds K fdR ["self"] []) (mR : Meth K CH "row" fR) (GR : FnOk P w K mg base CX0 (k + 1) fR fdR ["self"] (spHRow K CH))
    (M : Mk K CH fI) (GI : FnOk P w K mg base (L2.CX P w) k fI fdI ["self", "book", "row"] (spHInit K C CH CN)) (bI : Binds K fdI ["self", "book", "row"] []) :
    FnOk P w K mg base (L2.CX P w) (k + 2) f fd ["self", "other"] (spHPlus K C CH CO) := by
  refine F.okX scHPlus (fun vs H Q E h => ?_) (fun cdv A outer s H vs Q E hr h => ?_)
  · obtain ⟨p, q, bk, bk', cs, cs', fs, fs', r, s, rfl, _⟩ := h
    rfl
  · obtain ⟨p, q, bk, bk', cs, cs', fs, fs', r, s, rfl, hP, hQ, hl, q0, q1⟩ := h
    refine ⟨_, pss_cons (ps_expr (pe_meth (pv 0) T.cl mC GC hr bC .nil (passes_call (takes_of rfl rfl rfl rfl) (fun _ _ _ _ h => h)) (pa_cons (pv 1) pa_nil)))
      (pss_one (ps_ret (pe_make M GI hr (by rfl) T.mgC bI .nil (passes_call (takes_of rfl rfl rfl rfl) (fun _ _ _ _ h => h)) (pa_cons (pe_fld (pv 0) rfl) (pa_cons (pe_op op_cat (pe_meth0 (pv 0) T.cl mR GR hr bR .nil pass0) (pe_meth0 (pv 1) T.cl mR GR hr bR .nil pass0)) pa_nil))))), ?_⟩
    obtain ⟨dx, t, hp, ht⟩ := hP.hp
    obtain ⟨dx', t', hp', ht'⟩ := hQ.hp
    have lr := tiersM_len fs r
    have ls := tiersM_len fs' s
    refine ⟨.ref p, rfl, p, dx, _, rfl, hp, rfl, .ref q, rfl, p, q, bk, bk', cs, cs', fs, fs', _, _, rfl, hP.hp, hQ.hp, hP.bk, hQ.bk, fun e => ?_, q1⟩
    obtain ⟨rfl, rfl⟩ := e
    refine ⟨.ref p, rfl, p, CH, dx, _, _, rfl, hp, T.cl, T.nO, hpF_owner bk t, .ref p, rfl, p, dx, _, rfl, hp, rfl, p, bk, _, rfl, hP.hp, by omega, fun H1 l1 s1 n1 h1 => ?_⟩
    refine ⟨.ref q, rfl, q, dx', _, rfl, s1 _ _ hp', rfl, q, bk', _, rfl, hQ.hp.same s1, by omega, fun H2 l2 s2 n2 h2 => ?_⟩
    refine ⟨l1, l2, _, _, rfl, rfl, s2 _ _ h1, h2, ?_, fun l3 n3 => ?_⟩
    · rw [List.length_map, List.length_map]
      exact Nat.le_of_lt (small_k (by omega))
    have u3 := same_upd (o := .lst ((tiersM fs r).flatten.map V.int ++ (tiersM fs s).flatten.map V.int)) n3
    have s123 := (s1.trans s2).trans u3
    refine hmake (hP.bk.same s123) hP.good hP.len (row := (tiersM fs r).flatten ++ (tiersM fs s).flatten) (.inl (SqL.of (by rw [upd_same, List.map_append]))) (by rw [List.length_append]; omega) (fun x hx => ?_) (fun H4 x s4 nx hX => ?_)
    · rcases List.mem_append.mp hx with h | h
      · exact hP.inn x (tiersM_mem h)
      · exact hQ.inn x (tiersM_mem h)
    · refine q0 ⟨rfl, rfl⟩ H4 x (s123.trans s4) (s123.free nx) ⟨?_, hX.bk, hP.good, hP.len, fun x hx => ?_⟩
      · have := hX.hp
        rw [tiersM_app hP.good hP.inn hQ.inn] at this
        exact this
      · rcases List.mem_append.mp hx with h | h
        · exact hP.inn x h
        · exact hQ.inn x h
end
def spHPlusC (K : PySem.W.Frag) (C CH : Addr) : Sp := fun vs H Q _ => ∃ (p q bk bk' : Addr) (cs : List Int) (fs : List (List Tri)) (r s : List Int), vs = [.ref p, .ref q] ∧ HpOf K C CH H p bk cs fs r ∧ HpOf K C CH H q bk' cs fs s ∧ r.length + s.length ≤ 1000 ∧
  ∀ H' x, Same H H' → H x = none → HpOf K C CH H' x bk cs fs (r ++ s) → Q (.ref x) H'
section
variable {P : Program} {w : World} {K : PySem.W.Frag} {mg : Str → Option Value} {base : Heap}
theorem hplusC {f C CH CO : Addr} {fd : FuncData} {k : Nat} (G : FnOk P w K mg base (L2.CX P w) k f fd ["self", "other"] (spHPlus K C CH CO)) : FnOk P w K mg base CX0 k f fd ["self", "other"] (spHPlusC K C CH) := calm G fun vs H Q E h => by
  obtain ⟨p, q, bk, bk', cs, fs, r, s, rfl, hP, hQ, hl, q0⟩ := h
  exact ⟨p, q, bk, bk', cs, cs, fs, fs, r, s, rfl, hP, hQ, hl, fun _ => q0, fun bad => absurd ⟨rfl, rfl⟩ bad⟩
end
/-! ### shape where the figure is there; on; columns -/
def spShpC (K : PySem.W.Frag) (C : Addr) : Sp := fun vs H Q _ => ∃ (p : Addr) (cs : List Int) (fs : List (List Tri)) (z : Int), vs = [.ref p, .int z] ∧ BookAt K C H p cs fs ∧ InF fs z ∧ ∀ v, FigT K H v (fs.getD z.toNat []) → Q v H
abbrev sHOn : Stmt := inClass (topS 53) 6
abbrev nHOn : List Str := ["self", "pad", "figure"]
theorem scHOn : FnScope nHOn ["self", "pad"] (defScope sHOn) := ⟨rfl, rfl, rfl, by decide +kernel, rfl, by decide +kernel, by decide +kernel⟩
def spHOn (K : PySem.W.Frag) (C CH CP : Addr) : Sp := fun vs H Q E => ∃ (p bk : Addr) (z : Int) (cs : List Int) (fs : List (List Tri)) (ts : List (List Int)), vs = [.ref p, .int z] ∧ HeapAt K CH H p bk ts ∧ BookAt K C H bk cs fs ∧ (∀ f ∈ fs, GoodF cs f) ∧ cs.length ≤ 100 ∧ (∀ x ∈ ts.flatten, InF fs x) ∧ ts.flatten.length ≤ 1000 ∧
  (0 ≤ z ∧ z < (cs.length : Nat) → ∀ H' l, Same H H' → H l = none → H' l = some (.lst ((onPad (pdF fs) z ts.flatten).map V.int)) → Q (.ref l) H') ∧ (¬ (0 ≤ z ∧ z < (cs.length : Nat)) → refuseN 23 CP [z] H E)
def spHOnC (K : PySem.W.Frag) (C CH : Addr) : Sp := fun vs H Q _ => ∃ (p bk : Addr) (z : Int) (cs : List Int) (fs : List (List Tri)) (ts : List (List Int)), vs = [.ref p, .int z] ∧ HeapAt K CH H p bk ts ∧ BookAt K C H bk cs fs ∧ (∀ f ∈ fs, GoodF cs f) ∧ cs.length ≤ 100 ∧ (∀ x ∈ ts.flatten, InF fs x) ∧ ts.flatten.length ≤ 1000 ∧
  (0 ≤ z ∧ z < (cs.length : Nat)) ∧ ∀ H' l, Same H H' → H l = none → H' l = some (.lst ((onPad (pdF fs) z ts.flatten).map V.int)) → Q (.ref l) H'
theorem onPad_snoc {pd : Int → List Int} {p : Int} {r : List Int} {i : Nat} {x : Int} (h : r[i]? = some x) : onPad pd p (r.take (i + 1)) = onPad pd p (r.take i) ++ if p ∈ pd x then [x] else [] := by
  rw [take_snoc h, onPad_append]
  by_cases e : p ∈ pd x
  · rw [if_pos e, onPad_in e]
  · rw [if_neg e, onPad_out e]
theorem inV_mem (p : Int) (qs : List Int) : inV (.int p) (qs.map V.int) = decide (p ∈ qs) := by
  rw [inV_ints]
  by_cases h : p ∈ qs
  · rw [decide_eq_true h, List.any_eq_true]
    exact ⟨p, h, decide_eq_true rfl⟩
  · rw [decide_eq_false h, List.any_eq_false]
    intro x hx z
    exact h (by rw [← of_decide_eq_true z]; exact hx)
section
variable {P : Program} {w : World} {K : PySem.W.Frag} {mg : Str → Option Value} {base : Heap}
theorem shpC {fS C CN : Addr} {fdS : FuncData} {k : Nat} (G : FnOk P w K mg base (L2.CX P w) k fS fdS ["self", "at"] (spShpX K C CN)) : FnOk P w K mg base CX0 k fS fdS ["self", "at"] (spShpC K C) := calm G fun vs H Q E h => by
  obtain ⟨p, cs, fs, z, rfl, hK, hz, q⟩ := h
  refine ⟨p, cs, fs, z, rfl, hK, fun i e hi v hv => q v ?_, fun bad => absurd hz bad⟩
  rw [show z.toNat = i by omega]
  exact hv
theorem ok_hon {f C CH CP fP fR fS fM : Addr} {fd fdP fdR fdS fdM : FuncData} {k : Nat} (F : Fun K "on" "Heap.on" sHOn f fd) (T : HpTxt K mg CH) (TB : BkTxt K mg C) (R : exc1 23 "NoPad" "pad" CP P w K mg base k)
    (FP : Fun K "pads_of" "pads_of" sPadsOf fP fdP) (bP : Binds K fdP ["figure"] []) (gP : mg "pads_of" = some (.ref fP)) (GP : FnOk P w K mg base CX0 (k + 1) fP fdP ["figure"] (spPads K))
    (bR : Binds K fdR ["self"] []) (mR : Meth K CH "row" fR) (GR : FnOk P w K mg base CX0 (k + 1) fR fdR ["self"] (spHRow K CH))
    (bS : Binds K fdS ["self", "at"] []) (mS : Meth K C "shape" fS) (GS : FnOk P w K mg base CX0 (k + 1) fS fdS ["self", "at"] (spShpC K C))
    (bM : Binds K fdM ["self"] []) (mM : Meth K C "pads" fM) (GM : FnOk P w K mg base CX0 (k + 1) fM fdM ["self"] (spPadsM K C)) :
    FnOk P w K mg base (L2.CX P w) (k + 2) f fd ["self", "pad"] (spHOn K C CH CP) := by
  refine F.okX scHOn (fun vs H Q E h => ?_) (fun cdv A outer s H vs Q E hr h => ?_)
  · obtain ⟨p, bk, z, cs, fs, ts, rfl, _⟩ := h
    rfl
  · obtain ⟨p, bk, z, cs, fs, ts, rfl, hH, hK, hG, hc, hin, hl, q, q1⟩ := h
    refine ⟨_, pss_cons (ps_if (pt_not (pt_chain op_le op_lt pe_int (pv 1) (pe_meth0 (pe_fld (pv 0) rfl) TB.cl mM GM hr bM .nil pass0))) (pss_one (ps_raise rfl (takes_of rfl rfl rfl rfl) (pmk_ref R hr (by rfl) (pa_cons (pv 1) pa_nil)))) pss_nil)
      (pss_one (ps_ret (pe_lc (own := [("figure", 2)]) (g := gName 2) rfl scHOn.nd (pi_list (pe_meth0 (pv 0) T.cl mR GR hr bR .nil pass0))
        (blkOk_by (own := [("figure", 2)]) (N := nHOn) (sc := defScope sHOn) (by decide +kernel)) (fun _ _ _ _ _ => pg_name (i := 2) scHOn.nd rfl (.inl rfl))
        (fun _ _ _ _ _ => pts_one (pt_cmpR (r := rIn K false) op_in_seq (pv 1) (pe_call GP hr (by rfl) gP FP.kp bP .nil pass0 (pa_cons (pe_meth (ta := tFld K (tVar 0) "owner") (pe_fld (pv 0) rfl) TB.cl mS GS hr bS .nil pass0 (pa_cons (pv 2) pa_nil)) pa_nil)) (by rfl)))
        (fun _ _ _ _ _ => pv 2)))), ?_⟩
    obtain ⟨dx, t, hp, ht⟩ := id hH
    obtain ⟨dk, ak, bk2, xk, hbk, _⟩ := id hK
    have bad : ¬ (0 ≤ z ∧ z < (cs.length : Nat)) → ∀ σ : L2.St, σ[1]? = some (some (.int z)) → tRef CP 1 (fun ws => [("pad", ws.getD 0 .non), ("word", .str "NoPad")]) (tCons (tVar 1) tNil) σ H fun cls d H' => E cls d H' := fun e σ hσ =>
      ⟨.int z, hσ, rfl, (show (1 : Nat) ≤ 1000 by decide), fun dd H2 h1 h2 h3 => q1 e dd H2 (same_ref h1 h2) h3⟩
    refine ⟨.int z, rfl, 0, z, rfl, rfl, _, rfl, ?_⟩
    by_cases e0 : 0 ≤ z
    rotate_left
    · rw [decide_eq_false e0]
      exact iteF ⟨_, rfl, iteT (bad (fun y => e0 y.1) _ rfl)⟩
    rw [decide_eq_true e0]
    refine iteT ⟨.ref p, rfl, p, CH, dx, _, _, rfl, hp, T.cl, T.nO, hpF_owner bk t, bk, dk, _, rfl, hbk, rfl, bk, cs, fs, rfl, hK, z, _, rfl, rfl, _, rfl, ?_⟩
    by_cases e1 : z < ((cs.length : Nat) : Int)
    rotate_left
    · rw [decide_eq_false e1]
      exact iteT (bad (fun y => e1 y.2) _ rfl)
    rw [decide_eq_true e1]
    refine iteF ⟨.ref p, rfl, p, dx, _, rfl, hp, rfl, p, bk, ts, rfl, hH, hl, fun H1 l1 s1 n1 h1 => ?_⟩
    refine ⟨l1, rfl, ⟨_, SqL.of h1⟩, fun D nD => ?_⟩
    refine lc_list (K := K) (a := l1) (xs := ts.flatten.map V.int) (fun i H' => Same H1 H' ∧ H' D = some (.lst ((onPad (pdF fs) z (ts.flatten.take i)).map V.int))) ⟨same_upd nD, upd_same⟩ (fun i H' _ hP => hP.1.seq (SqL.of h1)) (fun i x H' hx hP => ?_) (fun H2 hP => ?_)
    · obtain ⟨sm, hD⟩ := hP
      rw [List.getElem?_map] at hx
      cases hp2 : ts.flatten[i]? with
      | none => rw [hp2] at hx; cases hx
      | some fg =>
        rw [hp2] at hx
        obtain rfl := Option.some.inj hx
        have hF := hin fg (List.mem_of_getElem? hp2)
        obtain ⟨F0, hF0, hGF, eF, epd⟩ := pdF_in hG hF
        have hFl := hGF.len
        have s2 := s1.trans sm
        refine ⟨rfl, .int z, rfl, .ref p, rfl, p, CH, dx, _, _, rfl, s2 _ _ hp, T.cl, T.nO, hpF_owner bk t, bk, dk, _, rfl, s2 _ _ hbk, rfl, .int fg, rfl, bk, cs, fs, fg, rfl, hK.same s2, hF, fun v hv => ?_⟩
        rw [eF] at hv
        refine ⟨v, F0, rfl, hv, by omega, fun H3 pA s3 npA hpA => ?_⟩
        rw [← epd] at hpA
        refine ⟨pA, _, rfl, .inl (SqL.of hpA), rfl, flat_ints _, _, rfl, ?_⟩
        show if inV (V.int z) ((pdF fs fg).map V.int) = true then _ else _
        rw [inV_mem]
        by_cases e : z ∈ pdF fs fg
        · rw [decide_eq_true e]
          have hD3 := s3 _ _ hD
          refine iteT ⟨.int fg, rfl, _, hD3, ?_, Same.offUpd (sm.trans s3) nD, ?_⟩
          · rw [List.length_map]
            refine small1000 (Nat.le_trans (List.length_filter_le ..) ?_)
            rw [List.length_take]
            omega
          · rw [upd_same, onPad_snoc hp2, if_pos e, List.map_append]
            rfl
        · rw [decide_eq_false e]
          refine iteF ⟨sm.trans s3, ?_⟩
          rw [onPad_snoc hp2, if_neg e, List.append_nil]
          exact s3 _ _ hD
    · obtain ⟨sm, hD⟩ := hP
      rw [List.length_map, List.take_length] at hD
      exact q ⟨e0, e1⟩ H2 D (s1.trans sm) (s1.free nD) hD
theorem honC {f C CH CP : Addr} {fd : FuncData} {k : Nat} (G : FnOk P w K mg base (L2.CX P w) k f fd ["self", "pad"] (spHOn K C CH CP)) : FnOk P w K mg base CX0 k f fd ["self", "pad"] (spHOnC K C CH) := calm G fun vs H Q E h => by
  obtain ⟨p, bk, z, cs, fs, ts, rfl, hH, hK, hG, hc, hin, hl, hz, q⟩ := h
  exact ⟨p, bk, z, cs, fs, ts, rfl, hH, hK, hG, hc, hin, hl, fun _ => q, fun bad => absurd hz bad⟩
end
abbrev sHCols : Stmt := inClass (topS 53) 7
abbrev nHCols : List Str := ["self", "pad"]
theorem scHCols : FnScope nHCols ["self"] (defScope sHCols) := ⟨rfl, rfl, rfl, by decide +kernel, rfl, by decide +kernel, by decide +kernel⟩
def colsM (fs : List (List Tri)) (n : Nat) (r : List Int) : List (List Int) := (List.range n).map fun (p : Nat) => onPad (pdF fs) (p : Int) r
def spHCols (K : PySem.W.Frag) (C CH : Addr) : Sp := fun vs H Q _ => ∃ (p bk : Addr) (cs : List Int) (fs : List (List Tri)) (ts : List (List Int)), vs = [.ref p] ∧ HeapAt K CH H p bk ts ∧ BookAt K C H bk cs fs ∧ (∀ f ∈ fs, GoodF cs f) ∧ cs.length ≤ 100 ∧ (∀ x ∈ ts.flatten, InF fs x) ∧ ts.flatten.length ≤ 1000 ∧
  ∀ H' l xs, Same H H' → H l = none → H' l = some (.lst xs) → All2 (fun v t => ∃ a, v = .ref a ∧ H a = none ∧ H' a = some (.lst (t.map V.int))) xs (colsM fs cs.length ts.flatten) → Q (.ref l) H'
section
variable {P : Program} {w : World} {K : PySem.W.Frag} {mg : Str → Option Value} {base : Heap}
theorem ok_hcols {f C CH fO fM : Addr} {fd fdO fdM : FuncData} {k : Nat} (F : Fun K "columns" "Heap.columns" sHCols f fd) (T : HpTxt K mg CH) (TB : BkTxt K mg C) (mr : mg "range" = none)
    (bO : Binds K fdO ["self", "pad"] []) (mO : Meth K CH "on" fO) (GO : FnOk P w K mg base CX0 k fO fdO ["self", "pad"] (spHOnC K C CH))
    (bM : Binds K fdM ["self"] []) (mM : Meth K C "pads" fM) (GM : FnOk P w K mg base CX0 k fM fdM ["self"] (spPadsM K C)) :
    FnOk P w K mg base CX0 (k + 1) f fd ["self"] (spHCols K C CH) := by
  refine F.ok scHCols (fun vs H Q E h => ?_) (fun cdv A outer s H vs Q E hr h => ?_)
  · obtain ⟨p, bk, cs, fs, ts, rfl, _⟩ := h
    rfl
  · obtain ⟨p, bk, cs, fs, ts, rfl, hH, hK, hG, hc, hin, hl, q⟩ := h
    refine ⟨_, pss_one (ps_ret (pe_lc (own := [("pad", 1)]) (g := gName 1) (tt := tYes) rfl scHCols.nd (pi_range1 (by rfl) mr (pa_cons (pe_meth0 (pe_fld (pv 0) rfl) TB.cl mM GM hr bM .nil pass0) pa_nil))
        (blkOk_by (own := [("pad", 1)]) (N := nHCols) (sc := defScope sHCols) (by decide +kernel)) (fun _ _ _ _ _ => pg_name (i := 1) scHCols.nd rfl (.inl rfl)) (fun _ _ _ _ _ => pts_nil)
        (fun _ _ _ _ _ => pe_meth (pv 0) T.cl mO GO hr bO .nil pass0 (pa_cons (pv 1) pa_nil)))), ?_⟩
    obtain ⟨dx, t, hp, ht⟩ := id hH
    obtain ⟨dk, ak, bk2, xk, hbk, _⟩ := id hK
    refine ⟨.ref p, rfl, p, CH, dx, _, _, rfl, hp, T.cl, T.nO, hpF_owner bk t, bk, dk, _, rfl, hbk, rfl, bk, cs, fs, rfl, hK, ((cs.length : Nat) : Int), rfl, by omega, by omega, fun D nD => ?_⟩
    refine lc_range (lo := 0) (n := ((cs.length : Nat) : Int).toNat) (fun i H' => Same H H' ∧ ∃ zs, H' D = some (.lst zs) ∧ All2 (fun v t => ∃ a, v = .ref a ∧ a ≠ D ∧ H a = none ∧ H' a = some (.lst (t.map V.int))) zs ((colsM fs cs.length ts.flatten).take i)) ⟨same_upd nD, [], upd_same, True.intro⟩ (fun i H' hi hP => ?_) (fun H' hP => ?_)
    · obtain ⟨sm, zs, hD, hz⟩ := hP
      rw [Int.toNat_natCast] at hi
      have hzl := hz.len
      rw [List.length_take] at hzl
      refine ⟨rfl, yesT ⟨.ref p, rfl, p, dx, _, rfl, sm _ _ hp, rfl, .int (0 + (i : Int)), rfl, p, bk, 0 + (i : Int), cs, fs, ts, rfl, hH.same sm, hK.same sm, hG, hc, hin, hl, ⟨by omega, by omega⟩, fun H2 l s2 nl hl2 => ?_⟩⟩
      have hD2 := s2 _ _ hD
      have hlD : l ≠ D := fun z => by rw [z, hD] at nl; cases nl
      refine ⟨_, hD2, small1000 (by omega), Same.offUpd (sm.trans s2) nD, zs ++ [.ref l], upd_same, ?_⟩
      have ec : (colsM fs cs.length ts.flatten)[i]? = some (onPad (pdF fs) (0 + (i : Int)) ts.flatten) := by
        unfold colsM
        rw [List.getElem?_map, List.getElem?_range hi, Int.zero_add]
        rfl
      rw [take_snoc ec]
      exact All2.snoc ⟨l, rfl, hlD, sm.free nl, by rw [upd_ne hlD]; exact hl2⟩ (hz.mono fun v t ⟨a, e1, e2, e3, e4⟩ => ⟨a, e1, e2, e3, by rw [upd_ne e2]; exact s2 _ _ e4⟩)
    · obtain ⟨sm, zs, hD, hz⟩ := hP
      rw [Int.toNat_natCast, List.take_of_length_le (by unfold colsM; rw [List.length_map, List.length_range]; exact Nat.le_refl _)] at hz
      exact q H' D zs sm nD hD (hz.mono fun v t ⟨a, e1, e2, e3, e4⟩ => ⟨a, e1, e3, e4⟩)
end
/-! ### Heap.begins -/
def begB (fs : List (List Tri)) (n : Nat) (r s : List Int) : Bool := (List.range n).all fun (p : Nat) => decide (onPad (pdF fs) (p : Int) r = (onPad (pdF fs) (p : Int) s).take (onPad (pdF fs) (p : Int) r).length)
abbrev sHBeg : Stmt := inClass (topS 53) 11
abbrev nHBeg : List Str := ["self", "other", "few", "many"]
theorem scHBeg : FnScope nHBeg ["self", "other"] (defScope sHBeg) := ⟨rfl, rfl, rfl, by decide +kernel, rfl, by decide +kernel, by decide +kernel⟩
def spHBeg (K : PySem.W.Frag) (C CH CO : Addr) : Sp := fun vs H Q E => ∃ (p q bk bk' : Addr) (cs cs' : List Int) (fs fs' : List (List Tri)) (r s : List Int), vs = [.ref p, .ref q] ∧ HpOf K C CH H p bk cs fs r ∧ HpOf K C CH H q bk' cs' fs' s ∧ r.length ≤ 1000 ∧ s.length ≤ 1000 ∧
  (cs = cs' ∧ fs = fs' → ∀ H', Same H H' → Q (.bl (begB fs cs.length r s)) H') ∧ (¬ (cs = cs' ∧ fs = fs') → refuseN 7 CO [] H E)
theorem cols_at {fs : List (List Tri)} {n i : Nat} {r : List Int} (h : i < n) : (colsM fs n r)[i]? = some (onPad (pdF fs) (i : Int) r) := by
  unfold colsM
  rw [List.getElem?_map, List.getElem?_range h]
  rfl
section
variable {P : Program} {w : World} {K : PySem.W.Frag} {mg : Str → Option Value} {base : Heap}
theorem ok_hbeg {f C CH CO fC fCo : Addr} {fd fdC fdCo : FuncData} {k : Nat} (F : Fun K "begins" "Heap.begins" sHBeg f fd) (T : HpTxt K mg CH) (ma : mg "all" = none) (mz : mg "zip" = none) (ml : mg "len" = none)
    (bC : Binds K fdC ["self", "other"] []) (mC : Meth K CH "check_book" fC) (GC : FnOk P w K mg base (L2.CX P w) (k + 1) fC fdC ["self", "other"] (spHChk K C CH CO))
    (bCo : Binds K fdCo ["self"] []) (mCo : Meth K CH "columns" fCo) (GCo : FnOk P w K mg base CX0 (k + 1) fCo fdCo ["self"] (spHCols K C CH)) :
    FnOk P w K mg base (L2.CX P w) (k + 2) f fd ["self", "other"] (spHBeg K C CH CO) := by
  refine F.okX scHBeg (fun vs H Q E h => ?_) (fun cdv A outer s0 H vs Q E hr h => ?_)
  · obtain ⟨p, q, bk, bk', cs, cs', fs, fs', r, s, rfl, _⟩ := h
    rfl
  · obtain ⟨p, q, bk, bk', cs, cs', fs, fs', r, s, rfl, hP, hQ, hrl, hsl, q0, q1⟩ := h
    refine ⟨_, pss_cons (ps_expr (pe_meth (pv 0) T.cl mC GC hr bC .nil (passes_call (takes_of rfl rfl rfl rfl) (fun _ _ _ _ h => h)) (pa_cons (pv 1) pa_nil)))
      (pss_one (ps_ret (pe_callB (cr_all rfl) (by rfl) ma (by decide +kernel) (pa_cons (pe_lc (own := [("few", 2), ("many", 3)]) (g := g2 K 2 3) (tt := tYes) rfl scHBeg.nd (pi_zip (by rfl) mz (pa_cons (pe_meth0 (pv 0) T.cl mCo GCo hr bCo .nil pass0) (pa_cons (pe_meth0 (pv 1) T.cl mCo GCo hr bCo .nil pass0) pa_nil))) (blkOk_by (own := [("few", 2), ("many", 3)]) (N := nHBeg) (sc := defScope sHBeg) (by decide +kernel)) (fun _ _ _ _ _ => pg_tup (by rfl) (pgs_cons (pg_name (i := 2) scHBeg.nd rfl (.inl rfl)) (pgs_cons (pg_name (i := 3) scHBeg.nd rfl (.inl rfl)) pgs_nil))) (fun _ _ _ _ _ => pts_nil) (fun _ _ _ _ _ => pe_cmpR (r := rEqD K) (op_eqD hr.units) (pv 2) (pe_slice (r := rSlL K) sl_list (pv 3) po_none (po_some (pe_callB (r := rLenQ K) call_lenQ (by rfl) ml PySem.boot_len (pa_cons (pv 2) pa_nil)))) (nomark _))) pa_nil)))), ?_⟩
    obtain ⟨dx, t, hp, ht⟩ := id hP.hp
    obtain ⟨dx', t', hp', ht'⟩ := id hQ.hp
    have lr := tiersM_len fs r
    have ls := tiersM_len fs' s
    refine ⟨.ref p, rfl, p, dx, _, rfl, hp, rfl, .ref q, rfl, p, q, bk, bk', cs, cs', fs, fs', _, _, rfl, hP.hp, hQ.hp, hP.bk, hQ.bk, fun e => ?_, q1⟩
    obtain ⟨rfl, rfl⟩ := e
    have hc := hP.len
    refine ⟨.ref p, rfl, p, dx, _, rfl, hp, rfl, p, bk, cs, fs, _, rfl, hP.hp, hP.bk, hP.good, hc, (fun x hx => hP.inn x (tiersM_mem hx)), by omega, fun H1 l1 x1 s1 n1 h1 hz1 => ?_⟩
    refine ⟨.ref q, rfl, q, dx', _, rfl, s1 _ _ hp', rfl, q, bk', cs, fs, _, rfl, hQ.hp.same s1, hQ.bk.same s1, hQ.good, hc, (fun x hx => hQ.inn x (tiersM_mem hx)), by omega, fun H2 l2 x2 s2 n2 h2 hz2 => ?_⟩
    have hx1 := hz1.len
    have hx2 := hz2.len
    have ecl : ∀ r, (colsM fs cs.length r).length = cs.length := fun r => by unfold colsM; rw [List.length_map, List.length_range]
    rw [ecl] at hx1 hx2
    refine ⟨l1, l2, x1, x2, rfl, SqL.of (s2 _ _ h1), SqL.of h2, fun D nD => ?_⟩
    refine lc_it (walk_zip (K := K) (a := l1) (b := l2) (xs := x1) (ys := x2) rfl) (fun i H' => Same H2 H' ∧ H' D = some (.lst ((((List.range cs.length).take i).map fun (p : Nat) => decide (onPad (pdF fs) (p : Int) r = (onPad (pdF fs) (p : Int) s).take (onPad (pdF fs) (p : Int) r).length)).map V.bl))) ⟨same_upd nD, upd_same⟩ (fun i H' _ hP => ⟨SqL.of (hP.1 _ _ (s2 _ _ h1)), SqL.of (hP.1 _ _ h2)⟩) (fun i v H' H'' hi hP' hY => ?_) (fun H3 hP' => ?_)
    · obtain ⟨sm, hD⟩ := hP'
      obtain ⟨T0, x, y, rfl, nT, rfl, hx, hy⟩ := hY
      have hic : i < cs.length := by
        rw [hx1, hx2] at hi
        omega
      obtain ⟨tx, ex, a, rfl, _, ha⟩ := hz1.get hx
      obtain ⟨ty, ey, b, rfl, _, hb⟩ := hz2.get hy
      rw [cols_at hic, tiersM_on] at ex ey
      obtain rfl := Option.some.inj ex
      obtain rfl := Option.some.inj ey
      have u1 := same_upd (o := .tup [V.ref a, V.ref b]) nT
      have sm1 := sm.trans u1
      have ha1 := sm1 _ _ (s2 _ _ ha)
      have hb1 := sm1 _ _ hb
      have hD1 := u1 _ _ hD
      refine ⟨T0, _, rfl, SqT.of upd_same, rfl, _, _, rfl, _, _, rfl, rfl, rfl, yesT ⟨.ref a, rfl, .ref b, rfl, .ref a, rfl, a, _, rfl, .inl (SqL.of ha1), _, rfl, b, _, rfl, SqL.of hb1, fun l3 n3 => ?_⟩⟩
      rw [List.length_map, cutV_to, ← List.map_take]
      have u3 := same_upd (o := .lst (((onPad (pdF fs) (i : Int) s).take (onPad (pdF fs) (i : Int) r).length).map V.int)) n3
      refine ⟨_, _, dpL (SqL.of (u3 _ _ ha1)), dpL (SqL.of upd_same), shL _, shL _, ?_⟩
      rw [eqvL]
      refine ⟨_, u3 _ _ hD1, ?_, Same.offUpd (sm1.trans u3) nD, ?_⟩
      · rw [List.length_map, List.length_map, List.length_take, List.length_range]
        exact small1000 (by omega)
      · rw [upd_same, take_snoc (a := i) (List.getElem?_range hic), List.map_append, List.map_append]
        rfl
    · obtain ⟨sm, hD⟩ := hP'
      rw [hx1, hx2, Nat.min_self, List.take_of_length_le (by rw [List.length_range]; exact Nat.le_refl _)] at hD
      refine ⟨D, _, rfl, SqL.of hD, ?_⟩
      have := q0 ⟨rfl, rfl⟩ _ ((s1.trans s2).trans sm)
      unfold begB at this
      rw [List.all_map]
      exact this
end
def spHBegC (K : PySem.W.Frag) (C CH : Addr) : Sp := fun vs H Q _ => ∃ (p q bk bk' : Addr) (cs : List Int) (fs : List (List Tri)) (r s : List Int), vs = [.ref p, .ref q] ∧ HpOf K C CH H p bk cs fs r ∧ HpOf K C CH H q bk' cs fs s ∧ r.length ≤ 1000 ∧ s.length ≤ 1000 ∧ ∀ H', Same H H' → Q (.bl (begB fs cs.length r s)) H'
section
variable {P : Program} {w : World} {K : PySem.W.Frag} {mg : Str → Option Value} {base : Heap}
theorem hbegC {f C CH CO : Addr} {fd : FuncData} {k : Nat} (G : FnOk P w K mg base (L2.CX P w) k f fd ["self", "other"] (spHBeg K C CH CO)) : FnOk P w K mg base CX0 k f fd ["self", "other"] (spHBegC K C CH) := calm G fun vs H Q E h => by
  obtain ⟨p, q, bk, bk', cs, fs, r, s, rfl, hP, hQ, h1, h2, q0⟩ := h
  exact ⟨p, q, bk, bk', cs, cs, fs, fs, r, s, rfl, hP, hQ, h1, h2, fun _ => q0, fun bad => absurd ⟨rfl, rfl⟩ bad⟩
end
/-! ### row_without -/
abbrev sRWo : Stmt := topS 57
abbrev nRWo : List Str := ["row", "gone", "spent", "figure", "rest"]
theorem scRWo : FnScope nRWo ["row", "gone"] (defScope sRWo) := ⟨rfl, rfl, rfl, by decide +kernel, rfl, by decide +kernel, by decide +kernel⟩
/-- the row that lacks so many of each -/
def lacks : List Int → (Int → Nat) → List Int
  | [], _ => []
  | x :: r, c => if 0 < c x then lacks r (fun y => if y = x then c y - 1 else c y) else x :: lacks r c
def spRWo (K : PySem.W.Frag) : Sp := fun vs H Q _ => ∃ (a b : Addr) (row gone : List Int), vs = [.ref a, .ref b] ∧ SqL K H a (row.map V.int) ∧ SqL K H b (gone.map V.int) ∧ row.length ≤ 1000 ∧ gone.length ≤ 1000 ∧ ∀ H' l, Same H H' → H l = none → H' l = some (.lst ((lacks row fun x => gone.count x).map V.int)) → Q (.ref l) H'
theorem same_putB {H H' : Hp} {a : Addr} {o : HO} (s : Same H H') (n : H a = none) : Same H (upd H' a o) := fun b x e => by
  rw [upd_ne (ne_of_none e n)]
  exact s _ _ e
def Spent (kvs : List (Key × V)) (c : Int → Nat) : Prop := ∀ x : Int, (valV kvs (Sum.inl x) = none ∧ c x = 0) ∨ valV kvs (Sum.inl x) = some (.int (c x : Nat))
theorem Spent.get {kvs : List (Key × V)} {c : Int → Nat} (h : Spent kvs c) (x : Int) : (valV kvs (Sum.inl x)).getD (.int 0) = .int (c x : Nat) := by
  rcases h x with ⟨e1, e2⟩ | e
  · rw [e1, e2]
    rfl
  · rw [e]
    rfl
theorem Spent.put {kvs : List (Key × V)} {c : Int → Nat} (h : Spent kvs c) (x : Int) (n : Nat) : Spent (putK kvs (Sum.inl x) (.int (n : Nat))) (fun y => if y = x then n else c y) := fun y => by
  rw [valV_put]
  dsimp only
  by_cases e : y = x
  · rw [if_pos (by rw [e]), if_pos e]
    exact .inr rfl
  · rw [if_neg (fun z => e (Sum.inl.inj z)), if_neg e]
    exact h y
theorem Spent.congr {kvs : List (Key × V)} {c c' : Int → Nat} (h : Spent kvs c) (e : ∀ x, c x = c' x) : Spent kvs c' := by
  rw [show c' = c from (funext e).symm]
  exact h
theorem lacks_drop {row : List Int} {i : Nat} {x : Int} (h : row[i]? = some x) (c : Int → Nat) : lacks (row.drop i) c = if 0 < c x then lacks (row.drop (i + 1)) (fun y => if y = x then c y - 1 else c y) else x :: lacks (row.drop (i + 1)) c := by
  obtain ⟨hi, e⟩ := List.getElem?_eq_some_iff.mp h
  rw [List.drop_eq_getElem_cons hi, e]
  rfl
section
variable {P : Program} {w : World} {K : PySem.W.Frag} {mg : Str → Option Value} {base : Heap}
theorem ok_rwo {f : Addr} {fd : FuncData} {k : Nat} (F : Fun K "row_without" "row_without" sRWo f fd) : FnOk P w K mg base CX0 (k + 1) f fd ["row", "gone"] (spRWo K) := by
  refine F.ok scRWo (fun vs H Q E h => ?_) (fun cdv A outer s H vs Q E hr h => ?_)
  · obtain ⟨a, b, row, gone, rfl, _⟩ := h
    rfl
  · obtain ⟨a, b, row, gone, rfl, ha, hb, hrl, hgl, q⟩ := h
    refine ⟨_, pss_cons (ps_set (i := 2) scRWo.nd rfl (.inl rfl) pe_dnewK)
      (pss_cons (ps_for PassesOwn.never rfl (pi_list (pv 1)) (pg_name (i := 3) scRWo.nd rfl (.inl rfl)) (pss_one (ps_dput (hu_of hr) (pv 2) (pv 3) (pe_op op_add (pe_dget2 (hu_of hr) (pv 2) (pv 3) pe_int ⟨rfl, rfl, rfl, rfl⟩) pe_int) rfl)))
      (pss_cons (ps_set (i := 4) scRWo.nd rfl (.inl rfl) (pe_lst pa_nil))
      (pss_cons (ps_for PassesOwn.never rfl (pi_list (pv 0)) (pg_name (i := 3) scRWo.nd rfl (.inl rfl)) (pss_one (ps_if (pt_cmpR op_gt (pe_dget2 (hu_of hr) (pv 2) (pv 3) pe_int ⟨rfl, rfl, rfl, rfl⟩) pe_int (nomark _)) (pss_one (ps_daug (hu_of hr) (pv 2) (pv 3) pe_int in_sub (fun _ _ _ => rfl))) (pss_one (ps_expr (pe_bm PySem.F.plainAttrs_list PySem.F.slot_list_append PySem.F.type_list_append mt_append (pv 4) (pa_cons (pv 3) pa_nil)))))))
      (pss_one (ps_ret (pv 4)))))), ?_⟩
    refine fun d nd => ?_
    have u0 := same_upd (o := .dK []) nd
    refine ⟨.ref b, rfl, b, rfl, ⟨_, u0.seq hb⟩, for_list (xs := gone.map V.int) (fun i σ H' => ∃ (y3 y4 : Option V) (kvs : List (Key × V)), σ = [some (.ref a), some (.ref b), some (.ref d), y3, y4] ∧ Same H H' ∧ H' d = some (.dK kvs) ∧ kvs.length ≤ i ∧ Spent kvs (fun x => (gone.take i).count x))
      ⟨none, none, [], rfl, u0, upd_same, Nat.le_refl _, fun x => .inl ⟨rfl, rfl⟩⟩ (fun i σ H' _ ⟨_, _, _, _, s, _⟩ => s.seq hb) ?_ ?_⟩
    · rintro i xv σ H' hx ⟨y3, y4, kvs, rfl, s1, hd, hkl, hS⟩
      rw [List.getElem?_map] at hx
      cases hpx : gone[i]? with
      | none => rw [hpx] at hx; cases hx
      | some fg =>
        rw [hpx] at hx
        obtain rfl := Option.some.inj hx
        have hi : i < gone.length := (List.getElem?_eq_some_iff.mp hpx).1
        refine ⟨.ref d, rfl, d, rfl, .inl ⟨_, .inl hd⟩, .int fg, rfl, _, DGet.k (k := Sum.inl fg) hd, _, 1, hS.get fg, rfl, .ref d, rfl, .int fg, rfl, d, _, rfl, DPut.k (k := Sum.inl fg) hd (small1000 (by omega)), ?_⟩
        refine ⟨_, _, _, rfl, same_putB s1 nd, upd_same, ?_, ?_⟩
        · exact Nat.le_trans (putK_len' ..) (by omega)
        · have e1 : (((gone.take i).count fg : Nat) : Int) + 1 = (((gone.take i).count fg + 1 : Nat) : Int) := by omega
          show Spent (putK kvs (Sum.inl fg) (V.int ((((gone.take i).count fg : Nat) : Int) + 1))) _
          rw [e1]
          refine (hS.put fg _).congr fun y => ?_
          rw [take_snoc hpx, List.count_append]
          by_cases e : y = fg
          · rw [if_pos e, e]
            simp
          · rw [if_neg e, List.count_cons_of_ne (fun z => e z.symm)]
            simp
    · rintro σ H1 ⟨y3, y4, kvs, rfl, s1, hd, hkl, hS⟩
      rw [List.length_map, List.take_length] at hS
      rw [List.length_map] at hkl
      refine ⟨Nat.zero_le _, fun l nl => ?_⟩
      have u2 := same_upd (o := .lst []) nl
      have hld : l ≠ d := fun z => by rw [z, hd] at nl; cases nl
      refine ⟨.ref a, rfl, a, rfl, ⟨_, (s1.trans u2).seq ha⟩, for_list (xs := row.map V.int) (fun i σ H' => ∃ (y3 : Option V) (kvs : List (Key × V)) (c : Int → Nat) (acc : List Int), σ = [some (.ref a), some (.ref b), some (.ref d), y3, some (.ref l)] ∧ Same H H' ∧ H' d = some (.dK kvs) ∧ kvs.length ≤ gone.length + i ∧ Spent kvs c ∧ H' l = some (.lst (acc.map V.int)) ∧ acc.length ≤ i ∧ lacks row (fun x => gone.count x) = acc ++ lacks (row.drop i) c)
        ⟨_, kvs, _, [], rfl, s1.trans u2, u2 _ _ hd, by omega, hS, upd_same, Nat.le_refl _, rfl⟩ (fun i σ H' _ ⟨_, _, _, _, _, s, _⟩ => s.seq ha) ?_ ?_⟩
      · clear hd hkl hS
        rintro i xv σ H' hx ⟨y3, kvs, c, acc, rfl, s2, hd, hkl, hS, hl, hal, heq⟩
        rw [List.getElem?_map] at hx
        cases hpx : row[i]? with
        | none => rw [hpx] at hx; cases hx
        | some fg =>
          rw [hpx] at hx
          obtain rfl := Option.some.inj hx
          have hi : i < row.length := (List.getElem?_eq_some_iff.mp hpx).1
          rw [lacks_drop hpx] at heq
          refine ⟨.ref d, rfl, d, rfl, .inl ⟨_, .inl hd⟩, .int fg, rfl, _, DGet.k (k := Sum.inl fg) hd, _, 0, hS.get fg, rfl, _, rfl, ?_⟩
          by_cases hc : 0 < c fg
          · rw [if_pos hc] at heq
            rw [decide_eq_true (show (0 : Int) < ((c fg : Nat) : Int) by omega)]
            have hv : valV kvs (Sum.inl fg) = some (.int (c fg : Nat)) := by
              rcases hS fg with ⟨_, e⟩ | e
              · omega
              · exact e
            have hg := DGet.k (k := Sum.inl fg) hd
            rw [hv] at hg
            refine iteT ⟨.ref d, rfl, .int fg, rfl, d, _, rfl, hg, _, _, rfl, rfl, _, DPut.k (k := Sum.inl fg) hd (small_k (by omega)), ?_⟩
            have e1 : ((c fg : Nat) : Int) - 1 = ((c fg - 1 : Nat) : Int) := by omega
            refine ⟨_, _, _, acc, rfl, same_putB s2 nd, upd_same, ?_, (by show Spent (putK kvs (Sum.inl fg) (V.int (((c fg : Nat) : Int) - 1))) _; rw [e1]; exact hS.put fg _), by rw [upd_ne hld]; exact hl, by omega, ?_⟩
            · exact Nat.le_trans (putK_len' ..) (by omega)
            · rw [heq]
              congr 2
              funext y
              by_cases e : y = fg
              · rw [if_pos e, if_pos e, e]
              · rw [if_neg e, if_neg e]
          · rw [if_neg hc] at heq
            rw [decide_eq_false (show ¬ (0 : Int) < ((c fg : Nat) : Int) by omega)]
            refine iteF ⟨.ref l, rfl, .inl ⟨rfl, _, SqL.of hl⟩, .int fg, rfl, l, _, _, rfl, rfl, hl, ?_, ?_⟩
            · rw [List.length_map]
              exact small1000 (by omega)
            · refine ⟨_, kvs, c, acc ++ [fg], rfl, same_putB s2 (s1.free nl), by rw [upd_ne hld.symm]; exact hd, by omega, hS, by rw [upd_same, List.map_append]; rfl, by rw [List.length_append]; show acc.length + 1 ≤ i + 1; omega, ?_⟩
              rw [heq]
              simp
      · rintro σ H2 ⟨y3, kvs, c, acc, rfl, s2, _, _, _, hl, _, heq⟩
        rw [List.length_map, List.drop_length] at heq
        have e0 : lacks row (fun x => gone.count x) = acc := by
          rw [heq]
          exact List.append_nil _
        refine ⟨.ref l, rfl, q _ l s2 (s1.free nl) ?_⟩
        rw [e0]
        exact hl
end
/-! ### NoBeginning -/
abbrev sI_NoBeginning : Stmt := inClass (topS 20) 0
theorem scI_NoBeginning : FnScope ["self"] ["self"] (defScope sI_NoBeginning) := ⟨rfl, rfl, rfl, by decide +kernel, rfl, by decide +kernel, by decide +kernel⟩
theorem okI_NoBeginning {P : Program} {w : World} {K : PySem.W.Frag} {mg : Str → Option Value} {base : Heap} {f C CB fB : Addr} {fd fdB : FuncData} {k : Nat} (F : Fun K "__init__" "NoBeginning.__init__" sI_NoBeginning f fd) (T : OexG K C) (hw : PySem.W.findIn K (.ref C) "word" = some none)
    (B : CFn K CB "__init__" fB) (GB : FnOk P w K mg base CX0 k fB fdB ["self", "word"] (spBase K)) (bB : Binds K fdB ["self", "word"] []) (mB : mg "TearError" = some (.ref CB)) :
    FnOk P w K mg base CX0 (k + 1) f fd ["self"] (spMade C 0 (fun ws => [("word", .str "NoBeginning")])) := by
  refine F.ok scI_NoBeginning (fun vs H Q E h => ?_) (fun cdv A outer s H vs Q E hr h => ?_)
  · obtain ⟨a, ws, rfl, hl, _⟩ := h
    rw [List.length_cons, hl]
    rfl
  · obtain ⟨a, ws, rfl, hl, ha, q⟩ := h
    obtain rfl := ws_0 hl
    refine ⟨_, pss_one (ps_expr (pe_cfn B GB hr bB .nil pass0 (by rfl) mB (pa_cons (pv 0) (pa_cons pe_str pa_nil)))), ?_⟩
    refine ⟨.ref a, rfl, a, C, _, rfl, T, hw, ha, fun dx h1 h2 => ?_⟩
    have nn : a ≠ dx := fun z => h2 z.symm
    refine q dx _ h1 h2 (fun b b1 b2 => ?_) upd_same ?_
    · rw [upd_ne b1, upd_ne b2]
    · rw [upd_ne h2, upd_same]
/-! ### Barred -/
abbrev sI_Barred : Stmt := inClass (topS 21) 0
theorem scI_Barred : FnScope ["self", "pad"] ["self", "pad"] (defScope sI_Barred) := ⟨rfl, rfl, rfl, by decide +kernel, rfl, by decide +kernel, by decide +kernel⟩
theorem okI_Barred {P : Program} {w : World} {K : PySem.W.Frag} {mg : Str → Option Value} {base : Heap} {f C CB fB : Addr} {fd fdB : FuncData} {k : Nat} (F : Fun K "__init__" "Barred.__init__" sI_Barred f fd) (T : OexG K C) (hw : PySem.W.findIn K (.ref C) "word" = some none) (n_pad : PySem.W.findIn K (.ref C) "pad" = some none)
    (B : CFn K CB "__init__" fB) (GB : FnOk P w K mg base CX0 k fB fdB ["self", "word"] (spBase K)) (bB : Binds K fdB ["self", "word"] []) (mB : mg "TearError" = some (.ref CB)) :
    FnOk P w K mg base CX0 (k + 1) f fd ["self", "pad"] (spMade C 1 (fun ws => [("pad", ws.getD 0 .non), ("word", .str "Barred")])) := by
  refine F.ok scI_Barred (fun vs H Q E h => ?_) (fun cdv A outer s H vs Q E hr h => ?_)
  · obtain ⟨a, ws, rfl, hl, _⟩ := h
    rw [List.length_cons, hl]
    rfl
  · obtain ⟨a, ws, rfl, hl, ha, q⟩ := h
    obtain ⟨y0, rfl⟩ := ws_1 hl
    refine ⟨_, pss_cons (ps_expr (pe_cfn B GB hr bB .nil pass0 (by rfl) mB (pa_cons (pv 0) (pa_cons pe_str pa_nil)))) (pss_one (ps_gst (pv 0) (pv 1) rfl)), ?_⟩
    refine ⟨.ref a, rfl, a, C, _, rfl, T, hw, ha, fun dx h1 h2 => ?_⟩
    have nn : a ≠ dx := fun z => h2 z.symm
    refine ⟨y0, rfl, .ref a, rfl, a, C, rfl, T, n_pad, .inr ⟨dx, _, by rw [upd_same], by rw [upd_ne h2, upd_same], by simp, ?_⟩⟩
    refine q dx _ h1 h2 (fun b b1 b2 => ?_) ?_ ?_
    · rw [upd_ne b2, upd_ne b1, upd_ne b2]
    · rw [upd_ne nn, upd_same]
    · rw [upd_same]
      rfl
/-! ### Heap.less -/
abbrev sHLess : Stmt := inClass (topS 53) 12
theorem scHLess : FnScope nBEq ["self", "other"] (defScope sHLess) := ⟨rfl, rfl, rfl, by decide +kernel, rfl, by decide +kernel, by decide +kernel⟩
def lessM (fs : List (List Tri)) (r s : List Int) : List Int := lacks (tiersM fs r).flatten fun x => (tiersM fs s).flatten.count x
def spHLess (K : PySem.W.Frag) (C CH CO CB : Addr) : Sp := fun vs H Q E => ∃ (p q bk bk' : Addr) (cs cs' : List Int) (fs fs' : List (List Tri)) (r s : List Int), vs = [.ref p, .ref q] ∧ HpOf K C CH H p bk cs fs r ∧ HpOf K C CH H q bk' cs' fs' s ∧ r.length ≤ 1000 ∧ s.length ≤ 1000 ∧
  (cs = cs' ∧ fs = fs' → begB fs cs.length s r = true → ∀ H' x, Same H H' → H x = none → HpOf K C CH H' x bk cs fs (lessM fs r s) → Q (.ref x) H') ∧ (cs = cs' ∧ fs = fs' → begB fs cs.length s r = false → refuseN 17 CB [] H E) ∧ (¬ (cs = cs' ∧ fs = fs') → refuseN 7 CO [] H E)
theorem lacks_mem : ∀ {row : List Int} {c : Int → Nat} {x : Int}, x ∈ lacks row c → x ∈ row
  | [], _, _, h => by cases h
  | y :: r, c, x, h => by
    unfold lacks at h
    split at h
    · exact List.mem_cons_of_mem _ (lacks_mem h)
    · rcases List.mem_cons.mp h with h | h
      · rw [h]
        exact List.mem_cons_self
      · exact List.mem_cons_of_mem _ (lacks_mem h)
theorem lacks_len : ∀ (row : List Int) (c : Int → Nat), (lacks row c).length ≤ row.length
  | [], _ => Nat.le_refl _
  | y :: r, c => by
    unfold lacks
    split
    · have := lacks_len r (fun z => if z = y then c z - 1 else c z)
      rw [List.length_cons]
      omega
    · have := lacks_len r c
      rw [List.length_cons, List.length_cons]
      omega
section
variable {P : Program} {w : World} {K : PySem.W.Frag} {mg : Str → Option Value} {base : Heap}
theorem ok_hless {f C CH CO CB CN fB fR fW fI : Addr} {fd fdB fdR fdW fdI : FuncData} {k : Nat} (F : Fun K "less" "Heap.less" sHLess f fd) (T : HpTxt K mg CH) (R : exc0 "NoBeginning" CB P w K mg base k)
    (bB : Binds K fdB ["self", "other"] []) (mB : Meth K CH "begins" fB) (GB : FnOk P w K mg base (L2.CX P w) (k + 1) fB fdB ["self", "other"] (spHBeg K C CH CO))
    (bR : Binds K fdR ["self"] []) (mR : Meth K CH "row" fR) (GR : FnOk P w K mg base CX0 (k + 1) fR fdR ["self"] (spHRow K CH))
    (FW : Fun K "row_without" "row_without" sRWo fW fdW) (bW : Binds K fdW ["row", "gone"] []) (gW : mg "row_without" = some (.ref fW)) (GW : FnOk P w K mg base CX0 (k + 1) fW fdW ["row", "gone"] (spRWo K))
    (MI : Mk K CH fI) (GI : FnOk P w K mg base (L2.CX P w) k fI fdI ["self", "book", "row"] (spHInit K C CH CN)) (bI : Binds K fdI ["self", "book", "row"] []) :
    FnOk P w K mg base (L2.CX P w) (k + 2) f fd ["self", "other"] (spHLess K C CH CO CB) := by
  refine F.okX scHLess (fun vs H Q E h => ?_) (fun cdv A outer s0 H vs Q E hr h => ?_)
  · obtain ⟨p, q, bk, bk', cs, cs', fs, fs', r, s, rfl, _⟩ := h
    rfl
  · obtain ⟨p, q, bk, bk', cs, cs', fs, fs', r, s, rfl, hP, hQ, hrl, hsl, q0, q1, q2⟩ := h
    refine ⟨_, pss_cons (ps_if (pt_not (pt_val (pe_meth (pv 1) T.cl mB GB hr bB .nil (passes_call (takes_of rfl rfl rfl rfl) (fun _ _ _ _ h => h)) (pa_cons (pv 0) pa_nil)))) (pss_one (ps_raise rfl (takes_of rfl rfl rfl rfl) (pmk_ref0 R hr (by rfl)))) pss_nil)
      (pss_one (ps_ret (pe_make MI GI hr (by rfl) T.mgC bI .nil (passes_call (takes_of rfl rfl rfl rfl) (fun _ _ _ _ h => h)) (pa_cons (pe_fld (pv 0) rfl) (pa_cons (pe_call GW hr (by rfl) gW FW.kp bW .nil pass0 (pa_cons (pe_meth0 (pv 0) T.cl mR GR hr bR .nil pass0) (pa_cons (pe_meth0 (pv 1) T.cl mR GR hr bR .nil pass0) pa_nil))) pa_nil))))), ?_⟩
    obtain ⟨dx, t, hp, ht⟩ := id hP.hp
    obtain ⟨dx', t', hp', ht'⟩ := id hQ.hp
    have lr := tiersM_len fs r
    have ls := tiersM_len fs' s
    refine ⟨.ref q, rfl, q, dx', _, rfl, hp', rfl, .ref p, rfl, q, p, bk', bk, cs', cs, fs', fs, s, r, rfl, hQ, hP, hsl, hrl, fun e H1 s1 => ?_, fun e => q2 fun z => e ⟨z.1.symm, z.2.symm⟩⟩
    obtain ⟨rfl, rfl⟩ := e
    refine ⟨_, rfl, ?_⟩
    cases eb : begB fs' cs'.length s r with
    | false =>
      exact iteT ⟨rfl, Nat.zero_le _, fun dd H2 h1 h2 h3 => q1 ⟨rfl, rfl⟩ eb dd H2 (s1.trans (same_ref h1 h2)) h3⟩
    | true =>
      refine iteF ⟨.ref p, rfl, p, CH, dx, _, _, rfl, s1 _ _ hp, T.cl, T.nO, hpF_owner bk t, .ref p, rfl, p, dx, _, rfl, s1 _ _ hp, rfl, p, bk, _, rfl, hP.hp.same s1, by omega, fun H2 l1 s2 n1 h1 => ?_⟩
      have s12 := s1.trans s2
      refine ⟨.ref q, rfl, q, dx', _, rfl, s12 _ _ hp', rfl, q, bk', _, rfl, hQ.hp.same s12, by omega, fun H3 l2 s3 n2 h2 => ?_⟩
      refine ⟨l1, l2, (tiersM fs' r).flatten, (tiersM fs' s).flatten, rfl, SqL.of (s3 _ _ h1), SqL.of h2, by omega, by omega, fun H4 l3 s4 n3 h3 => ?_⟩
      have s14 := (s12.trans s3).trans s4
      have hll := lacks_len (tiersM fs' r).flatten fun x => (tiersM fs' s).flatten.count x
      refine hmake (hP.bk.same s14) hP.good hP.len (row := lessM fs' r s) (.inl (SqL.of h3)) (by unfold lessM; omega) (fun x hx => hP.inn x (tiersM_mem (lacks_mem hx))) (fun H5 x s5 nx hX => ?_)
      exact q0 ⟨rfl, rfl⟩ eb H5 x (s14.trans s5) (s14.free nx) hX
end
def spHLessC (K : PySem.W.Frag) (C CH : Addr) : Sp := fun vs H Q _ => ∃ (p q bk bk' : Addr) (cs : List Int) (fs : List (List Tri)) (r s : List Int), vs = [.ref p, .ref q] ∧ HpOf K C CH H p bk cs fs r ∧ HpOf K C CH H q bk' cs fs s ∧ r.length ≤ 1000 ∧ s.length ≤ 1000 ∧
  begB fs cs.length s r = true ∧ ∀ H' x, Same H H' → H x = none → HpOf K C CH H' x bk cs fs (lessM fs r s) → Q (.ref x) H'
section
variable {P : Program} {w : World} {K : PySem.W.Frag} {mg : Str → Option Value} {base : Heap}
theorem hlessC {f C CH CO CB : Addr} {fd : FuncData} {k : Nat} (G : FnOk P w K mg base (L2.CX P w) k f fd ["self", "other"] (spHLess K C CH CO CB)) : FnOk P w K mg base CX0 k f fd ["self", "other"] (spHLessC K C CH) := calm G fun vs H Q E h => by
  obtain ⟨p, q, bk, bk', cs, fs, r, s, rfl, hP, hQ, h1, h2, hb, q0⟩ := h
  exact ⟨p, q, bk, bk', cs, cs, fs, fs, r, s, rfl, hP, hQ, h1, h2, fun _ _ => q0, (fun _ e => by rw [hb] at e; cases e), fun bad => absurd ⟨rfl, rfl⟩ bad⟩
end
/-! ### what is left behind a beginning: the mathematics -/
/-- x meets y -/
def mtP (fs : List (List Tri)) (x y : Int) : Bool := (pdF fs y).any fun p => decide (p ∈ pdF fs x)
theorem mtP_iff {fs : List (List Tri)} {x y : Int} : mtP fs x y = true ↔ ∃ p, p ∈ pdF fs y ∧ p ∈ pdF fs x := by
  unfold mtP
  rw [List.any_eq_true]
  exact ⟨fun ⟨p, h1, h2⟩ => ⟨p, h1, of_decide_eq_true h2⟩, fun ⟨p, h1, h2⟩ => ⟨p, h1, decide_eq_true h2⟩⟩
def aheadM (fs : List (List Tri)) (left : List Int) (y : Int) : List Nat := (List.range left.length).filter fun k => mtP fs (left.getD k 0) y
def stepM (fs : List (List Tri)) (left : List Int) (y : Int) : Option (List Int) := match (aheadM fs left y).head? with
  | some j => if left.getD j 0 = y then some (left.eraseIdx j) else none
  | none => none
def restM (fs : List (List Tri)) : List Int → List Int → Option (List Int)
  | left, [] => some left
  | left, y :: more => (stepM fs left y).bind fun l => restM fs l more
theorem ahead_cases (fs : List (List Tri)) (left : List Int) (y : Int) : ((aheadM fs left y).head? = none ∧ ∀ z ∈ left, mtP fs z y = false) ∨ ∃ a x b, left = a ++ x :: b ∧ (∀ z ∈ a, mtP fs z y = false) ∧ mtP fs x y = true ∧ (aheadM fs left y).head? = some a.length := by
  cases e : left.find? fun z => mtP fs z y with
  | none =>
    left
    have h := List.find?_eq_none.mp e
    have hn : ∀ z ∈ left, mtP fs z y = false := fun z hz => by
      have := h z hz
      simpa using this
    refine ⟨?_, hn⟩
    unfold aheadM
    rw [List.filter_eq_nil_iff.mpr fun k hk => ?_]
    · rfl
    · have hk := List.mem_range.mp hk
      rw [List.getD_eq_getElem?_getD, List.getElem?_eq_getElem hk, Option.getD_some, hn _ (List.getElem_mem hk)]
      simp
  | some x =>
    right
    obtain ⟨hx, a, b, rfl, ha⟩ := List.find?_eq_some_iff_append.mp e
    have ha' : ∀ z ∈ a, mtP fs z y = false := fun z hz => by
      have := ha z hz
      simpa using this
    refine ⟨a, x, b, rfl, ha', hx, ?_⟩
    unfold aheadM
    rw [List.head?_filter, List.find?_range_eq_some]
    refine ⟨?_, ?_, fun j hj => ?_⟩
    · rw [List.getD_eq_getElem?_getD, List.getElem?_append_right (Nat.le_refl _), Nat.sub_self]
      exact hx
    · rw [List.mem_range, List.length_append, List.length_cons]
      omega
    · rw [List.getD_eq_getElem?_getD, List.getElem?_append_left hj, List.getElem?_eq_getElem hj, Option.getD_some, ha' _ (List.getElem_mem hj)]
      rfl
theorem on_none {fs : List (List Tri)} {a : List Int} {y p : Int} (h : ∀ z ∈ a, mtP fs z y = false) (hp : p ∈ pdF fs y) : onPad (pdF fs) p a = [] :=
  List.filter_eq_nil_iff.mpr fun z hz q => by
    have := h z hz
    rw [mtP_iff.mpr ⟨p, hp, of_decide_eq_true q⟩] at this
    cases this
theorem step_some {fs : List (List Tri)} {left l1 : List Int} {y : Int} (h : stepM fs left y = some l1) : l1.length + 1 = left.length ∧ (∀ z ∈ l1, z ∈ left) ∧ ∀ p, onPad (pdF fs) p left = onPad (pdF fs) p [y] ++ onPad (pdF fs) p l1 := by
  rcases ahead_cases fs left y with ⟨e, _⟩ | ⟨a, x, b, rfl, ha, hx, e⟩
  · unfold stepM at h
    rw [e] at h
    cases h
  · unfold stepM at h
    rw [e] at h
    have h : (if (a ++ x :: b).getD a.length 0 = y then some ((a ++ x :: b).eraseIdx a.length) else none) = some l1 := h
    have eg : (a ++ x :: b).getD a.length 0 = x := by
      rw [List.getD_eq_getElem?_getD, List.getElem?_append_right (Nat.le_refl _), Nat.sub_self]
      rfl
    rw [eg] at h
    by_cases exy : x = y
    · rw [if_pos exy] at h
      have el : (a ++ x :: b).eraseIdx a.length = a ++ b := by
        rw [List.eraseIdx_append_of_length_le (Nat.le_refl _), Nat.sub_self]
        rfl
      rw [el] at h
      obtain rfl := Option.some.inj h
      subst exy
      refine ⟨by rw [List.length_append, List.length_append, List.length_cons]; omega, fun z hz => ?_, fun p => ?_⟩
      · rcases List.mem_append.mp hz with q | q
        · exact List.mem_append_left _ q
        · exact List.mem_append_right _ (List.mem_cons_of_mem _ q)
      · rw [onPad_append, show x :: b = [x] ++ b from rfl, onPad_append, onPad_append]
        by_cases hp : p ∈ pdF fs x
        · rw [on_none ha hp]
          rfl
        · rw [onPad_out hp]
          rfl
    · rw [if_neg exy] at h
      cases h
theorem step_none {fs : List (List Tri)} {left : List Int} {y : Int} (hy : pdF fs y ≠ []) (h : stepM fs left y = none) : ¬ ∀ p ∈ pdF fs y, (onPad (pdF fs) p left).head? = some y := fun hall => by
  rcases ahead_cases fs left y with ⟨e, hn⟩ | ⟨a, x, b, rfl, ha, hx, e⟩
  · obtain ⟨p, hp⟩ := List.exists_mem_of_ne_nil _ hy
    have := hall p hp
    rw [on_none hn hp] at this
    cases this
  · obtain ⟨p, hp1, hp2⟩ := mtP_iff.mp hx
    have h1 := hall p hp1
    rw [onPad_append, on_none ha hp1, show x :: b = [x] ++ b from rfl, onPad_append, onPad_in hp2] at h1
    have exy : x = y := Option.some.inj h1
    unfold stepM at h
    rw [e] at h
    have h : (if (a ++ x :: b).getD a.length 0 = y then some ((a ++ x :: b).eraseIdx a.length) else none) = none := h
    have eg : (a ++ x :: b).getD a.length 0 = x := by
      rw [List.getD_eq_getElem?_getD, List.getElem?_append_right (Nat.le_refl _), Nat.sub_self]
      rfl
    rw [eg, if_pos exy] at h
    cases h
theorem rest_some {fs : List (List Tri)} : ∀ {begun left l : List Int}, restM fs left begun = some l → (∀ z ∈ l, z ∈ left) ∧ l.length ≤ left.length ∧ ∀ p, onPad (pdF fs) p left = onPad (pdF fs) p begun ++ onPad (pdF fs) p l
  | [], left, l, h => by
    obtain rfl := Option.some.inj h
    exact ⟨fun z hz => hz, Nat.le_refl _, fun p => rfl⟩
  | y :: more, left, l, h => by
    have h : (stepM fs left y).bind (fun l => restM fs l more) = some l := h
    cases e : stepM fs left y with
    | none => rw [e] at h; cases h
    | some l1 =>
      rw [e] at h
      obtain ⟨h1, h2, h3⟩ := step_some e
      obtain ⟨i1, i2, i3⟩ := rest_some (begun := more) (left := l1) h
      refine ⟨fun z hz => h2 z (i1 z hz), by omega, fun p => ?_⟩
      rw [h3, i3, show y :: more = [y] ++ more from rfl, onPad_append, List.append_assoc]
theorem rest_none {fs : List (List Tri)} : ∀ {begun left : List Int}, (∀ y ∈ begun, pdF fs y ≠ []) → restM fs left begun = none → ¬ ∀ p, onPad (pdF fs) p begun <+: onPad (pdF fs) p left
  | [], left, _, h => by cases h
  | y :: more, left, hne, h => fun hall => by
    have h : (stepM fs left y).bind (fun l => restM fs l more) = none := h
    cases e : stepM fs left y with
    | none =>
      refine step_none (hne y List.mem_cons_self) e fun p hp => ?_
      obtain ⟨t, ht⟩ := hall p
      rw [← ht, show y :: more = [y] ++ more from rfl, onPad_append, onPad_in hp]
      rfl
    | some l1 =>
      rw [e] at h
      obtain ⟨h1, h2, h3⟩ := step_some e
      refine rest_none (begun := more) (left := l1) (fun z hz => hne z (List.mem_cons_of_mem _ hz)) h fun p => ?_
      have := hall p
      rw [h3, show y :: more = [y] ++ more from rfl, onPad_append] at this
      exact (List.prefix_append_right_inj _).mp this
theorem pd_ne {cs : List Int} {fs : List (List Tri)} (hG : ∀ f ∈ fs, GoodF cs f) {x : Int} (hx : InF fs x) : pdF fs x ≠ [] := by
  obtain ⟨f, hf, hgf, _, epd⟩ := pdF_in hG hx
  rw [epd]
  exact fun z => hgf.ne (List.map_eq_nil_iff.mp z)
/-! ### what is left behind a beginning: begins, less -/
theorem begB_iff {cs : List Int} {fs : List (List Tri)} (hG : ∀ f ∈ fs, GoodF cs f) {r s : List Int} (hr : ∀ x ∈ r, InF fs x) : begB fs cs.length r s = true ↔ ∀ p, onPad (pdF fs) p r <+: onPad (pdF fs) p s := by
  unfold begB
  rw [List.all_eq_true]
  constructor
  · intro h p
    by_cases hp : 0 ≤ p ∧ p < (cs.length : Nat)
    · have := of_decide_eq_true (h p.toNat (List.mem_range.mpr (by omega)))
      rw [Int.toNat_of_nonneg hp.1] at this
      exact List.prefix_iff_eq_take.mpr this
    · rw [show onPad (pdF fs) p r = [] from List.filter_eq_nil_iff.mpr fun x hx z => hp (pdF_mem hG (hr x hx) (of_decide_eq_true z))]
      exact List.nil_prefix
  · intro h n _
    exact decide_eq_true (List.prefix_iff_eq_take.mp (h (n : Int)))
theorem begB_rest {cs : List Int} {fs : List (List Tri)} (hG : ∀ f ∈ fs, GoodF cs f) {r s : List Int} (hr : ∀ x ∈ r, InF fs x) : begB fs cs.length r s = (restM fs s r).isSome := by
  cases e : restM fs s r with
  | none =>
    cases eb : begB fs cs.length r s with
    | false => rfl
    | true => exact absurd ((begB_iff hG hr).mp eb) (rest_none (fun y hy => pd_ne hG (hr y hy)) e)
  | some l =>
    exact (begB_iff hG hr).mpr fun p => ⟨_, ((rest_some e).2.2 p).symm⟩
theorem lacks_congr : ∀ {l : List Int} {c c' : Int → Nat}, (∀ y ∈ l, c y = c' y) → lacks l c = lacks l c'
  | [], _, _, _ => rfl
  | x :: r, c, c', h => by
    unfold lacks
    rw [h x List.mem_cons_self]
    by_cases e : 0 < c' x
    · rw [if_pos e, if_pos e]
      exact lacks_congr fun y hy => by
        have := h y (List.mem_cons_of_mem _ hy)
        by_cases e2 : y = x
        · rw [if_pos e2, if_pos e2, this]
        · rw [if_neg e2, if_neg e2, this]
    · rw [if_neg e, if_neg e, lacks_congr fun y hy => h y (List.mem_cons_of_mem _ hy)]
theorem lacks_on (pd : Int → List Int) (p : Int) : ∀ (l : List Int) (c : Int → Nat), onPad pd p (lacks l c) = lacks (onPad pd p l) c
  | [], _ => rfl
  | x :: r, c => by
    rw [show x :: r = [x] ++ r from rfl, onPad_append]
    show onPad pd p (if 0 < c x then lacks r (fun y => if y = x then c y - 1 else c y) else x :: lacks r c) = _
    by_cases hp : p ∈ pd x
    · rw [onPad_in hp]
      show _ = (if 0 < c x then lacks (onPad pd p r) (fun y => if y = x then c y - 1 else c y) else x :: lacks (onPad pd p r) c)
      by_cases e : 0 < c x
      · rw [if_pos e, if_pos e, lacks_on pd p r]
      · rw [if_neg e, if_neg e, show x :: lacks r c = [x] ++ lacks r c from rfl, onPad_append, onPad_in hp, lacks_on pd p r]
        rfl
    · rw [onPad_out hp, List.nil_append]
      by_cases e : 0 < c x
      · rw [if_pos e, lacks_on pd p r]
        refine lacks_congr fun y hy => if_neg fun z => ?_
        have := of_decide_eq_true (List.mem_filter.mp hy).2
        rw [z] at this
        exact hp this
      · rw [if_neg e, show x :: lacks r c = [x] ++ lacks r c from rfl, onPad_append, onPad_out hp, lacks_on pd p r]
        rfl
theorem lacks_pre : ∀ (a b : List Int) (c : Int → Nat), (∀ y ∈ a ++ b, c y = a.count y) → lacks (a ++ b) c = b
  | [], [], _, _ => rfl
  | [], x :: b, c, h => by
    have h0 := h x List.mem_cons_self
    show (if 0 < c x then lacks b _ else x :: lacks b c) = _
    rw [if_neg (by rw [h0]; simp)]
    have := lacks_pre [] b c fun y hy => h y (List.mem_cons_of_mem _ hy)
    rw [List.nil_append] at this
    rw [this]
  | x :: a, b, c, h => by
    have h0 := h x List.mem_cons_self
    rw [List.count_cons_self] at h0
    show (if 0 < c x then lacks (a ++ b) (fun y => if y = x then c y - 1 else c y) else x :: lacks (a ++ b) c) = _
    rw [if_pos (by omega)]
    refine lacks_pre a b _ fun y hy => ?_
    have := h y (List.mem_cons_of_mem _ hy)
    by_cases e : y = x
    · rw [if_pos e, e, h0]
      omega
    · rw [if_neg e, this, List.count_cons_of_ne fun z => e z.symm]
theorem less_on {fs : List (List Tri)} {r s l : List Int} (h : restM fs r s = some l) (p : Int) : onPad (pdF fs) p (lessM fs r s) = onPad (pdF fs) p l := by
  unfold lessM
  rw [lacks_on, tiersM_on, (rest_some h).2.2 p]
  refine lacks_pre _ _ _ fun y hy => ?_
  have hp : p ∈ pdF fs y := by
    rcases List.mem_append.mp hy with q | q
    · exact of_decide_eq_true (List.mem_filter.mp q).2
    · exact of_decide_eq_true (List.mem_filter.mp q).2
  rw [← tiersM_on fs s p]
  unfold onPad
  exact (List.count_filter (p := fun x => decide (p ∈ pdF fs x)) (a := y) (decide_eq_true hp)).symm
/-! ### an item of a list, by its place -/
section
variable {X : Cx}
theorem get_list : PGet X (rIxL X.K) := by
  intro pins s σ H x y v u Q I rx ry h
  obtain ⟨p, xs, i, z, rfl, rfl, hq, he, q⟩ := h
  cases rx
  obtain ⟨t, rfl⟩ := ry
  obtain ⟨its, r, pl, hz⟩ := I.list hq
  obtain ⟨j, h1, h2, h3, h4, h5⟩ := atI_get he
  obtain ⟨w, ew, rw'⟩ := r.get h2
  have hl := r.length
  have hn := line63
  have fin : EP X pins σ Q w s := ⟨z, H, I, rw', q⟩
  by_cases h0 : 0 ≤ i
  · have hj : i.toNat = j := by
      rw [seqIndex_of h0 h5] at h1
      exact Option.some.inj h1
    exact wpAny_getItem_list pl.isList h0 (by omega) (by rw [hj]; simpa using ew) fin
  · have hj : (i + (its.toArray.size : Int)).toNat = j := by
      rw [seqIndex_neg (by omega) h4] at h1
      rw [List.size_toArray, ← hl]
      exact Option.some.inj h1
    exact wpAny_getItem_list_neg pl.isList (by omega) (by rw [List.size_toArray] <;> omega) (by omega) (by rw [hj]; simpa using ew) fin
end
/-! ### how many notes are taken from each pad -/
def depAt (f : List Tri) (p : Int) : Int := ((f.filter fun t => decide (t.1 = p)).map (·.2.2)).sum
def tknAt (fs : List (List Tri)) (row : List Int) (p : Int) : Int := (row.map fun x => depAt (fs.getD x.toNat []) p).sum
def tknM (fs : List (List Tri)) (n : Nat) (row : List Int) : List Int := (List.range n).map fun (p : Nat) => tknAt fs row (p : Int)
theorem depAt_out {f : List Tri} {p : Int} (h : ¬ p ∈ f.map (·.1)) : depAt f p = 0 := by
  unfold depAt
  rw [List.filter_eq_nil_iff.mpr fun t ht => by
    simp only [decide_eq_true_eq]
    exact fun e => h (List.mem_map.mpr ⟨t, ht, e⟩)]
  rfl
theorem depAt_snoc (f : List Tri) (t : Tri) (p : Int) : depAt (f ++ [t]) p = depAt f p + if t.1 = p then t.2.2 else 0 := by
  unfold depAt
  rw [List.filter_append, List.map_append, List.sum_append]
  by_cases e : t.1 = p
  · rw [if_pos e, List.filter_cons_of_pos (by simpa using e)]
    simp
  · rw [if_neg e, List.filter_cons_of_neg (by simpa using e)]
    simp
theorem tkn_on (fs : List (List Tri)) (p : Int) : ∀ row : List Int, tknAt fs row p = tknAt fs (onPad (pdF fs) p row) p
  | [] => rfl
  | x :: row => by
    have ih := tkn_on fs p row
    by_cases e : p ∈ pdF fs x
    · rw [show onPad (pdF fs) p (x :: row) = x :: onPad (pdF fs) p row from List.filter_cons_of_pos (decide_eq_true e)]
      show depAt _ p + tknAt fs row p = depAt _ p + tknAt fs _ p
      rw [ih]
    · rw [show onPad (pdF fs) p (x :: row) = onPad (pdF fs) p row from List.filter_cons_of_neg (by simpa using e)]
      show depAt _ p + tknAt fs row p = _
      rw [depAt_out e, Int.zero_add, ih]
theorem tknM_tiers (fs : List (List Tri)) (n : Nat) (row : List Int) : tknM fs n (tiersM fs row).flatten = tknM fs n row := by
  unfold tknM
  refine List.map_congr_left fun p _ => ?_
  rw [tkn_on fs p (tiersM fs row).flatten, tiersM_on, ← tkn_on]
theorem tkn_snoc (fs : List (List Tri)) (row : List Int) (x p : Int) : tknAt fs (row ++ [x]) p = tknAt fs row p + depAt (fs.getD x.toNat []) p := by
  unfold tknAt
  rw [List.map_append, List.sum_append]
  simp
theorem zeros0 (fs : List (List Tri)) (n : Nat) : (List.replicate n [V.int 0]).flatten = (List.range n).map fun (p : Nat) => V.int (tknAt fs [] (p : Int)) := by
  rw [List.flatten_replicate_singleton, show (fun (p : Nat) => V.int (tknAt fs [] (p : Int))) = fun _ => V.int 0 from rfl, List.map_const', List.length_range]
abbrev sHTkn : Stmt := inClass (topS 53) 8
abbrev nHTkn : List Str := ["self", "many", "figure", "pad", "note", "depth"]
theorem scHTkn : FnScope nHTkn ["self"] (defScope sHTkn) := ⟨rfl, rfl, rfl, by decide +kernel, rfl, by decide +kernel, by decide +kernel⟩
def spHTkn (K : PySem.W.Frag) (C CH : Addr) : Sp := fun vs H Q _ => ∃ (p bk : Addr) (cs : List Int) (fs : List (List Tri)) (row : List Int), vs = [.ref p] ∧ HpOf K C CH H p bk cs fs row ∧ row.length ≤ 1000 ∧ ∀ H' t, Same H H' → SqT K H' t ((tknM fs cs.length row).map V.int) → Q (.ref t) H'
section
variable {P : Program} {w : World} {K : PySem.W.Frag} {mg : Str → Option Value} {base : Heap}
theorem ok_htkn {f C CH fR fS fM : Addr} {fd fdR fdS fdM : FuncData} {k : Nat} (F : Fun K "taken" "Heap.taken" sHTkn f fd) (T : HpTxt K mg CH) (TB : BkTxt K mg C) (mt : mg "tuple" = none)
    (bR : Binds K fdR ["self"] []) (mR : Meth K CH "row" fR) (GR : FnOk P w K mg base CX0 k fR fdR ["self"] (spHRow K CH))
    (bS : Binds K fdS ["self", "at"] []) (mS : Meth K C "shape" fS) (GS : FnOk P w K mg base CX0 k fS fdS ["self", "at"] (spShpC K C))
    (bM : Binds K fdM ["self"] []) (mM : Meth K C "pads" fM) (GM : FnOk P w K mg base CX0 k fM fdM ["self"] (spPadsM K C)) :
    FnOk P w K mg base CX0 (k + 1) f fd ["self"] (spHTkn K C CH) := by
  refine F.ok scHTkn (fun vs H Q E h => ?_) (fun cdv A outer s H vs Q E hr h => ?_)
  · obtain ⟨p, bk, cs, fs, row, rfl, _⟩ := h
    rfl
  · obtain ⟨p, bk, cs, fs, row, rfl, hP, hl, q⟩ := h
    refine ⟨_, pss_cons (ps_set (i := 1) scHTkn.nd rfl (.inl rfl) (pe_op op_rep (pe_lst (pa_cons pe_int pa_nil)) (pe_meth0 (pe_fld (pv 0) rfl) TB.cl mM GM hr bM .nil pass0)))
      (pss_cons (ps_for PassesOwn.never rfl (pi_list (pe_meth0 (pv 0) T.cl mR GR hr bR .nil pass0)) (pg_name (i := 2) scHTkn.nd rfl (.inl rfl)) (pss_one (ps_for PassesOwn.never rfl (pi_tup (pe_meth (pe_fld (pv 0) rfl) TB.cl mS GS hr bS .nil pass0 (pa_cons (pv 2) pa_nil))) (pg_tup (by rfl) (pgs_cons (pg_name (i := 3) scHTkn.nd rfl (.inl rfl)) (pgs_cons (pg_name (i := 4) scHTkn.nd rfl (.inl rfl)) (pgs_cons (pg_name (i := 5) scHTkn.nd rfl (.inl rfl)) pgs_nil)))) (pss_one (ps_augS (pv 1) (pv 3) get_list (pv 5) ip_add set_list)))))
      (pss_one (ps_ret (pe_callTy call_tupS (by rfl) mt (by decide +kernel) (pa_cons (pv 1) pa_nil))))), ?_⟩
    obtain ⟨dx, t, hp, ht⟩ := id hP.hp
    obtain ⟨dk, ak, bk2, xk, hbk, _⟩ := id hP.bk
    have l2 := tiersM_len fs row
    have hc := hP.len
    refine ⟨(show (1 : Nat) ≤ sizeLine by decide), fun z0 nz0 => ?_⟩
    have u0 := same_upd (o := .lst [.int 0]) nz0
    refine ⟨.ref p, rfl, p, CH, dx, _, _, rfl, u0 _ _ hp, T.cl, T.nO, hpF_owner bk t, bk, dk, _, rfl, u0 _ _ hbk, rfl, bk, cs, fs, rfl, hP.bk.same u0, z0, ((cs.length : Nat) : Int), [.int 0], rfl, rfl, upd_same, by omega, by omega, ?_, fun mA nmA => ?_⟩
    · rw [Int.toNat_natCast]
      show 1 * cs.length ≤ sizeLine
      have := small1000 (n := cs.length) (by omega)
      omega
    rw [Int.toNat_natCast, zeros0 fs]
    have u1 := same_upd (o := .lst ((List.range cs.length).map fun (p : Nat) => V.int (tknAt fs [] (p : Int)))) nmA
    have s1 := u0.trans u1
    have nm0 : H mA = none := u0.free nmA
    have hm1 : (upd (upd H z0 (.lst [.int 0])) mA (.lst ((List.range cs.length).map fun (p : Nat) => V.int (tknAt fs [] (p : Int))))) mA = some (.lst ((List.range cs.length).map fun (p : Nat) => V.int (tknAt fs [] (p : Int)))) := upd_same
    generalize upd (upd H z0 (.lst [.int 0])) mA (.lst ((List.range cs.length).map fun (p : Nat) => V.int (tknAt fs [] (p : Int)))) = H1 at s1 hm1 ⊢
    clear u0 u1 nmA nz0
    refine ⟨.ref p, rfl, p, dx, _, rfl, s1 _ _ hp, rfl, p, bk, _, rfl, hP.hp.same s1, by omega, fun H2 l s2 nl hl2 => ?_⟩
    have hml : mA ≠ l := ne_of_none hm1 nl
    refine ⟨l, rfl, ⟨_, SqL.of hl2⟩, for_list (xs := (tiersM fs row).flatten.map V.int) (fun i σ H' => ∃ (y2 y3 y4 y5 : Option V), σ = [some (.ref p), some (.ref mA), y2, y3, y4, y5] ∧ Same H H' ∧ H' l = some (.lst ((tiersM fs row).flatten.map V.int)) ∧ H' mA = some (.lst ((List.range cs.length).map fun (p : Nat) => V.int (tknAt fs ((tiersM fs row).flatten.take i) (p : Int)))))
      ⟨_, _, _, _, rfl, s1.trans s2, hl2, s2 _ _ hm1⟩ (fun i σ H' _ ⟨_, _, _, _, _, _, h, _⟩ => SqL.of h) ?_ ?_⟩
    · rintro i x σ H' hx ⟨y2, y3, y4, y5, rfl, s3, h3, m3⟩
      rw [List.getElem?_map] at hx
      cases hpx : (tiersM fs row).flatten[i]? with
      | none => rw [hpx] at hx; cases hx
      | some fg =>
        rw [hpx] at hx
        obtain rfl := Option.some.inj hx
        have hF : InF fs fg := hP.inn fg (tiersM_mem (List.mem_of_getElem? hpx))
        obtain ⟨F0, hF0, hGF, eF, epd⟩ := pdF_in hP.good hF
        refine ⟨.ref p, rfl, p, CH, dx, _, _, rfl, s3 _ _ hp, T.cl, T.nO, hpF_owner bk t, bk, dk, _, rfl, s3 _ _ hbk, rfl, .int fg, rfl, bk, cs, fs, fg, rfl, hP.bk.same s3, hF, fun v hv => ?_⟩
        rw [eF] at hv
        obtain ⟨fa, fx, rfl, hfa, hfx⟩ := hv
        refine ⟨fa, rfl, ⟨_, hfa⟩, for_tup (xs := fx) (fun j σ H'' => ∃ (y3 y4 y5 : Option V), σ = [some (.ref p), some (.ref mA), some (.int fg), y3, y4, y5] ∧ Off mA H' H'' ∧ H'' mA = some (.lst ((List.range cs.length).map fun (p : Nat) => V.int (tknAt fs ((tiersM fs row).flatten.take i) (p : Int) + depAt (F0.take j) (p : Int)))))
          ⟨_, _, _, rfl, Off.same (fun _ _ h => h), by rw [m3]; congr 2; refine List.map_congr_left fun p' _ => ?_; rw [show depAt (F0.take 0) (p' : Int) = 0 from rfl, Int.add_zero]⟩ (fun j σ H'' _ ⟨_, _, _, _, off, _⟩ => TS.but off m3 _ _ hfa) ?_ ?_⟩
        · rintro j x σ H'' hx ⟨y3, y4, y5, rfl, off, hm⟩
          obtain ⟨⟨a, b, c⟩, et, tp, rfl, htp⟩ := hfx.get hx
          have hT3 := hGF.all _ (List.mem_of_getElem? et)
          have hp0 := hT3.p0
          have hp1 := hT3.p1
          dsimp only at hp0 hp1
          obtain ⟨n, rfl⟩ := Int.eq_ofNat_of_zero_le hp0
          have hn : n < cs.length := by omega
          refine ⟨tp, _, rfl, TS.but off m3 _ _ htp, rfl, _, _, rfl, _, _, rfl, _, _, rfl, rfl, ?_⟩
          refine ⟨.ref mA, rfl, .int (n : Nat), rfl, mA, _, _, _, rfl, rfl, SqL.of hm, atI_nat (j := n) (by rw [List.getElem?_map, List.getElem?_range hn]; rfl), .int c, rfl, _, _, rfl, rfl, mA, _, _, n, rfl, rfl, hm, ?_, ?_⟩
          · rw [List.length_map, List.length_range]
            unfold ixN
            rw [if_pos (by omega), if_pos (by omega), Int.toNat_natCast]
          · refine ⟨_, _, _, rfl, off.trans Off.upd, ?_⟩
            rw [upd_same, set_range]
            congr 2
            refine List.map_congr_left fun p' _ => ?_
            rw [take_snoc et, depAt_snoc]
            by_cases e : p' = n
            · subst e
              rw [if_pos rfl, if_pos rfl]
              exact congrArg V.int (Int.add_assoc _ _ _)
            · rw [if_neg e, if_neg (fun z => e (by have z : (n : Int) = (p' : Int) := z; omega)), Int.add_zero]
        · rintro σ H'' ⟨y3, y4, y5, rfl, off, hm⟩
          refine ⟨_, _, _, _, rfl, fun b o e => off b o (ne_of_none e nm0) (s3 _ _ e), off _ _ hml.symm h3, ?_⟩
          rw [hm, hfx.len, List.take_length, take_snoc hpx]
          congr 2
          refine List.map_congr_left fun p' _ => ?_
          rw [tkn_snoc, eF]
    · rintro σ H' ⟨y2, y3, y4, y5, rfl, s3, h3, m3⟩
      refine ⟨.ref mA, rfl, mA, _, rfl, .inl (SqL.of m3), fun l9 H9 s9 h9 => q _ _ (s3.trans s9) ?_⟩
      rw [List.length_map, List.take_length] at h9
      rw [← tknM_tiers]
      unfold tknM
      rw [List.map_map]
      exact h9
end
/-! ### the greatest common beginning: the mathematics -/
/-- the pad is barred by what is gone -/
def barD (pd : Int → List Int) (gone : List Int) (p : Int) : Bool := gone.any fun y => decide (p ∈ pd y)
theorem barD_iff {pd : Int → List Int} {gone : List Int} {p : Int} : barD pd gone p = true ↔ ∃ y ∈ gone, p ∈ pd y := by
  unfold barD
  rw [List.any_eq_true]
  exact ⟨fun ⟨y, h1, h2⟩ => ⟨y, h1, of_decide_eq_true h2⟩, fun ⟨y, h1, h2⟩ => ⟨y, h1, decide_eq_true h2⟩⟩
theorem barD_snoc (pd : Int → List Int) (gone : List Int) (x p : Int) : barD pd (gone ++ [x]) p = (barD pd gone p || decide (p ∈ pd x)) := by
  unfold barD
  rw [List.any_append]
  simp
/-- whether the figure falls -/
def falls (pd : Int → List Int) (st : List Int → Int → Bool) (pre gone : List Int) (x : Int) : Bool := ((pd x).any fun p => barD pd gone p) || !st pre x
def begGo (pd : Int → List Int) (st : List Int → Int → Bool) : List Int → List Int → List Int → List Int → List Int
  | _, out, _, [] => out
  | pre, out, gone, x :: rest => if falls pd st pre gone x = true then begGo pd st (pre ++ [x]) out (gone ++ [x]) rest else begGo pd st (pre ++ [x]) (out ++ [x]) gone rest
def begM (pd : Int → List Int) (st : List Int → Int → Bool) (r : List Int) : List Int := begGo pd st [] [] [] r
/-- what is next in the columns of s -/
def nextIn (pd : Int → List Int) (s : List Int) (pre : List Int) (x : Int) : Bool := (pd x).all fun p => decide (((onPad pd p s).drop (onPad pd p pre).length).take 1 = [x])
/-- amid the row -/
structure BInv (pd : Int → List Int) (s : List Int) (pre out gone : List Int) : Prop where
  a : ∀ p, onPad pd p out <+: onPad pd p pre
  b : ∀ p, barD pd gone p = false → onPad pd p out = onPad pd p pre
  c : ∀ p, onPad pd p out <+: onPad pd p s
  m : ∀ x ∈ out, x ∈ pre
  l : out.length ≤ pre.length
/-- a common beginning of all and of s goes not beyond what is barred -/
def BTop (pd : Int → List Int) (X out gone : List Int) : Prop := ∀ p, barD pd gone p = true → (onPad pd p X).length ≤ (onPad pd p out).length
theorem pre_next {a b : List Int} {x : Int} (h : a <+: b) (hn : (b.drop a.length).take 1 = [x]) : a ++ [x] <+: b := by
  obtain ⟨t, rfl⟩ := h
  rw [List.drop_left] at hn
  cases t with
  | nil => cases hn
  | cons y t =>
    have e : y = x := by simpa using hn
    subst e
    exact ⟨t, by simp⟩
theorem next_pre {a b : List Int} {x : Int} (h : a ++ [x] <+: b) : (b.drop a.length).take 1 = [x] := by
  obtain ⟨t, rfl⟩ := h
  rw [List.append_assoc, List.drop_left]
  rfl
/-- longer than what is ahead: then it has the next too -/
theorem pre_more {a c X : List Int} {x : Int} (h : X <+: a ++ x :: c) (hl : a.length < X.length) : a ++ [x] <+: X := by
  have h2 : a ++ [x] <+: a ++ x :: c := ⟨c, by simp⟩
  exact List.prefix_of_prefix_length_le h2 h (by rw [List.length_append]; exact hl)
theorem count_on {pd : Int → List Int} {p x : Int} (hp : p ∈ pd x) (r : List Int) : (onPad pd p r).count x = r.count x := by
  unfold onPad
  exact List.count_filter (p := fun x => decide (p ∈ pd x)) (a := x) (decide_eq_true hp)
theorem on_split (pd : Int → List Int) (p : Int) {pre rest : List Int} {x : Int} (hp : p ∈ pd x) : onPad pd p (pre ++ x :: rest) = onPad pd p pre ++ x :: onPad pd p rest := by
  rw [onPad_append, show x :: rest = [x] ++ rest from rfl, onPad_append, onPad_in hp]
  rfl
/-- where a beginning of all lacks the figure on a pad it lacks it on each of its pads -/
theorem lacks_all {pd : Int → List Int} {X pre rest : List Int} {x p0 p : Int} (hX : ∀ p, onPad pd p X <+: onPad pd p (pre ++ x :: rest)) (h0 : p0 ∈ pd x) (hl : (onPad pd p0 X).length ≤ (onPad pd p0 pre).length) (hp : p ∈ pd x) : (onPad pd p X).length ≤ (onPad pd p pre).length := by
  refine Nat.le_of_not_lt fun hlt => ?_
  have h1 := hX p
  rw [on_split pd p hp] at h1
  have h2 := pre_more h1 hlt
  have c1 := h2.sublist.count_le x
  rw [List.count_append, count_on hp, count_on hp, List.count_singleton_self] at c1
  have h3 := hX p0
  rw [on_split pd p0 h0] at h3
  have h4 : onPad pd p0 X <+: onPad pd p0 pre := List.prefix_of_prefix_length_le h3 ⟨x :: onPad pd p0 rest, rfl⟩ hl
  have c2 := h4.sublist.count_le x
  rw [count_on h0, count_on h0] at c2
  omega
theorem BInv.keep {pd : Int → List Int} {s pre out gone : List Int} {x : Int} (B : BInv pd s pre out gone) (hf : falls pd (nextIn pd s) pre gone x = false) : BInv pd s (pre ++ [x]) (out ++ [x]) gone := by
  unfold falls at hf
  obtain ⟨hb, hn⟩ := Bool.or_eq_false_iff.mp hf
  have hn : nextIn pd s pre x = true := by simpa using hn
  have hb : ∀ p ∈ pd x, barD pd gone p = false := fun p hp => by
    have := List.any_eq_false.mp hb p hp
    simpa using this
  have hn : ∀ p ∈ pd x, ((onPad pd p s).drop (onPad pd p pre).length).take 1 = [x] := fun p hp => of_decide_eq_true (List.all_eq_true.mp hn p hp)
  refine ⟨fun p => ?_, fun p h => ?_, fun p => ?_, fun z hz => ?_, by rw [List.length_append, List.length_append]; have := B.l; omega⟩
  · rw [onPad_append, onPad_append]
    by_cases hp : p ∈ pd x
    · rw [B.b p (hb p hp)]
      exact List.prefix_refl _
    · rw [onPad_out hp, List.append_nil, List.append_nil]
      exact B.a p
  · rw [onPad_append, onPad_append, B.b p h]
  · rw [onPad_append]
    by_cases hp : p ∈ pd x
    · rw [onPad_in hp]
      have h1 := hn p hp
      rw [← B.b p (hb p hp)] at h1
      exact pre_next (B.c p) h1
    · rw [onPad_out hp, List.append_nil]
      exact B.c p
  · rcases List.mem_append.mp hz with q | q
    · exact List.mem_append_left _ (B.m z q)
    · exact List.mem_append_right _ q
theorem BInv.drop {pd : Int → List Int} {s pre out gone : List Int} {x : Int} (B : BInv pd s pre out gone) : BInv pd s (pre ++ [x]) out (gone ++ [x]) := by
  refine ⟨fun p => ?_, fun p h => ?_, B.c, fun z hz => List.mem_append_left _ (B.m z hz), by rw [List.length_append]; have := B.l; omega⟩
  · rw [onPad_append]
    exact (B.a p).trans (List.prefix_append ..)
  · rw [barD_snoc] at h
    obtain ⟨h1, h2⟩ := Bool.or_eq_false_iff.mp h
    rw [onPad_append, onPad_out (of_decide_eq_false h2), List.append_nil]
    exact B.b p h1
theorem BTop.keep {pd : Int → List Int} {s pre X out gone : List Int} {x : Int} (T : BTop pd X out gone) (hf : falls pd (nextIn pd s) pre gone x = false) : BTop pd X (out ++ [x]) gone := fun p h => by
  unfold falls at hf
  obtain ⟨hb, _⟩ := Bool.or_eq_false_iff.mp hf
  have hp : ¬ p ∈ pd x := fun hp => by
    have := List.any_eq_false.mp hb p hp
    rw [h] at this
    exact this rfl
  rw [onPad_append, onPad_out hp, List.append_nil]
  exact T p h
theorem BTop.drop {pd : Int → List Int} {s pre rest X out gone : List Int} {x : Int} (B : BInv pd s pre out gone) (T : BTop pd X out gone) (hX : ∀ p, onPad pd p X <+: onPad pd p (pre ++ x :: rest)) (hS : ∀ p, onPad pd p X <+: onPad pd p s) (hf : falls pd (nextIn pd s) pre gone x = true) : BTop pd X out (gone ++ [x]) := fun p h => by
  cases hb : barD pd gone p with
  | true => exact T p hb
  | false =>
    rw [barD_snoc, hb, Bool.false_or] at h
    have hp := of_decide_eq_true h
    rw [B.b p hb]
    have ⟨p0, h0, hl⟩ : ∃ p0 ∈ pd x, (onPad pd p0 X).length ≤ (onPad pd p0 pre).length := by
      unfold falls at hf
      rcases Bool.or_eq_true_iff.mp hf with q | q
      · obtain ⟨p0, h0, h1⟩ := List.any_eq_true.mp q
        exact ⟨p0, h0, Nat.le_trans (T p0 h1) (B.a p0).length_le⟩
      · have q : nextIn pd s pre x = false := by simpa using q
        obtain ⟨p0, h0, h1⟩ := List.all_eq_false.mp q
        refine ⟨p0, h0, Nat.le_of_not_lt fun hlt => h1 (decide_eq_true ?_)⟩
        have h3 := hX p0
        rw [on_split pd p0 h0] at h3
        exact next_pre ((pre_more h3 hlt).trans (hS p0))
    exact lacks_all hX h0 hl hp
theorem begGo_ok {pd : Int → List Int} {s : List Int} : ∀ {rest pre out gone : List Int}, BInv pd s pre out gone → ∃ out' gone', begGo pd (nextIn pd s) pre out gone rest = out' ∧ BInv pd s (pre ++ rest) out' gone' ∧
    ∀ X, (∀ p, onPad pd p X <+: onPad pd p (pre ++ rest)) → (∀ p, onPad pd p X <+: onPad pd p s) → BTop pd X out gone → BTop pd X out' gone'
  | [], pre, out, gone, B => ⟨out, gone, rfl, by rw [List.append_nil]; exact B, fun X _ _ T => T⟩
  | x :: rest, pre, out, gone, B => by
    have e : pre ++ x :: rest = (pre ++ [x]) ++ rest := by simp
    unfold begGo
    cases hf : falls pd (nextIn pd s) pre gone x with
    | true =>
      rw [if_pos rfl]
      obtain ⟨o, g, h1, h2, h3⟩ := begGo_ok (rest := rest) (B.drop (x := x))
      refine ⟨o, g, h1, by rw [e]; exact h2, fun X hX hS T => h3 X (by rw [← e]; exact hX) hS (BTop.drop B T hX hS hf)⟩
    | false =>
      rw [if_neg (by simp)]
      obtain ⟨o, g, h1, h2, h3⟩ := begGo_ok (rest := rest) (B.keep hf)
      refine ⟨o, g, h1, by rw [e]; exact h2, fun X hX hS T => h3 X (by rw [← e]; exact hX) hS (T.keep hf)⟩
/-- it begins both, and what begins both begins it -/
structure Gcb (pd : Int → List Int) (r s m : List Int) : Prop where
  one : ∀ p, onPad pd p m <+: onPad pd p r
  two : ∀ p, onPad pd p m <+: onPad pd p s
  top : ∀ X, (∀ p, onPad pd p X <+: onPad pd p r) → (∀ p, onPad pd p X <+: onPad pd p s) → ∀ p, onPad pd p X <+: onPad pd p m
theorem begM_ok (pd : Int → List Int) (r s : List Int) : Gcb pd r s (begM pd (nextIn pd s) r) ∧ (∀ x ∈ begM pd (nextIn pd s) r, x ∈ r) ∧ (begM pd (nextIn pd s) r).length ≤ r.length := by
  obtain ⟨o, g, h1, h2, h3⟩ := begGo_ok (pd := pd) (s := s) (rest := r) (pre := []) (out := []) (gone := []) ⟨fun p => List.prefix_refl _, fun p _ => rfl, fun p => List.nil_prefix, fun x hx => (nomatch hx), Nat.le_refl _⟩
  unfold begM
  rw [h1]
  rw [List.nil_append] at h2 h3
  refine ⟨⟨h2.a, h2.c, fun X hX hS p => ?_⟩, h2.m, h2.l⟩
  have T := h3 X hX hS fun p h => by
    unfold barD at h
    cases h
  cases hb : barD pd g p with
  | true => exact List.prefix_of_prefix_length_le (hX p) (h2.a p) (T p hb)
  | false =>
    rw [h2.b p hb]
    exact hX p
theorem pre_anti {a b : List Int} (h : a <+: b) (k : b <+: a) : a = b := h.eq_of_length (Nat.le_antisymm h.length_le k.length_le)
theorem Gcb.uniq {pd : Int → List Int} {r s m n : List Int} (h : Gcb pd r s m) (k : Gcb pd s r n) (p : Int) : onPad pd p m = onPad pd p n :=
  pre_anti (k.top m h.two h.one p) (h.top n k.two k.one p)
theorem Gcb.self {pd : Int → List Int} {r m : List Int} (h : Gcb pd r r m) (p : Int) : onPad pd p m = onPad pd p r := pre_anti (h.one p) (h.top r (fun _ => List.prefix_refl _) (fun _ => List.prefix_refl _) p)
theorem Gcb.nil {pd : Int → List Int} {r m : List Int} (h : Gcb pd r [] m) (p : Int) : onPad pd p m = onPad pd p [] := pre_anti (h.two p) List.nil_prefix
theorem Gcb.congr {pd : Int → List Int} {r s m r' s' m' : List Int} (h : Gcb pd r s m) (e1 : ∀ p, onPad pd p r = onPad pd p r') (e2 : ∀ p, onPad pd p s = onPad pd p s') (e3 : ∀ p, onPad pd p m = onPad pd p m') : Gcb pd r' s' m' :=
  ⟨fun p => by rw [← e3, ← e1]; exact h.one p, fun p => by rw [← e3, ← e2]; exact h.two p, fun X a b p => by rw [← e3]; exact h.top X (fun q => by rw [e1]; exact a q) (fun q => by rw [e2]; exact b q) p⟩
/-- no figure more -/
theorem Gcb.more {pd : Int → List Int} {r s m : List Int} {x : Int} (h : Gcb pd r s m) (hx : pd x ≠ []) (h1 : ∀ p, onPad pd p (m ++ [x]) <+: onPad pd p r) (h2 : ∀ p, onPad pd p (m ++ [x]) <+: onPad pd p s) : False := by
  obtain ⟨p, hp⟩ := List.exists_mem_of_ne_nil _ hx
  have := (h.top (m ++ [x]) h1 h2 p).length_le
  rw [onPad_append, onPad_in hp, List.length_append] at this
  have : (onPad pd p m).length + 1 ≤ (onPad pd p m).length := this
  omega
/-! ### is_next -/
theorem cutV_nx (zs : List V) (k : Nat) : cutV zs (some (k : Int)) (some ((k : Int) + 1)) = (zs.drop k).take 1 := by
  unfold cutV
  rw [show ((k : Int) + 1) = ((k + 1 : Nat) : Int) by omega, HT.sIx_nat, HT.sIx_nat]
  rcases Nat.lt_or_ge k zs.length with h | h
  · rw [Nat.min_eq_left (Nat.le_of_lt h), Nat.min_eq_left h, show k.succ - k = 1 by omega]
  · rw [Nat.min_eq_right h, List.drop_of_length_le h, List.drop_of_length_le (Nat.le_refl _), List.take_nil, List.take_nil]
abbrev sNext : Stmt := topS 56
abbrev nNext : List Str := ["columns", "pads", "places", "figure", "pad"]
theorem scNext : FnScope nNext ["columns", "pads", "places", "figure"] (defScope sNext) := ⟨rfl, rfl, rfl, by decide +kernel, rfl, by decide +kernel, by decide +kernel⟩
/-- columns of figures in a list of lists -/
def ColsAt (H : Hp) (lc : Addr) (cols : List (List Int)) : Prop := ∃ xc, H lc = some (.lst xc) ∧ All2 (fun v t => ∃ a, v = .ref a ∧ H a = some (.lst (t.map V.int))) xc cols
theorem ColsAt.ext {H H' : Hp} {lc : Addr} {cols : List (List Int)} (h : ColsAt H lc cols) (e : LamX.ExtN H H') : ColsAt H' lc cols := by
  obtain ⟨xc, h1, h2⟩ := h
  exact ⟨xc, e _ _ h1 (fun _ z => nomatch z), h2.mono fun v t ⟨a, e1, e2⟩ => ⟨a, e1, e _ _ e2 (fun _ z => nomatch z)⟩⟩
theorem ColsAt.same {H H' : Hp} {lc : Addr} {cols : List (List Int)} (h : ColsAt H lc cols) (e : Same H H') : ColsAt H' lc cols := h.ext (LamX.ExtN.of e)
def nextB (cols : List (List Int)) (ps : List Int) (n : Int → Nat) (x : Int) : Bool := ps.all fun p => decide (((cols.getD p.toNat []).drop (n p)).take 1 = [x])
def spNext (K : PySem.W.Frag) : Sp := fun vs H Q _ => ∃ (lc pA pl : Addr) (x : Int) (cols : List (List Int)) (ps : List Int) (m : Nat) (n : Int → Nat), vs = [.ref lc, .ref pA, .ref pl, .int x] ∧ ColsAt H lc cols ∧ H pA = some (.lst (ps.map V.int)) ∧ H pl = some (.lst ((List.range m).map fun (p : Nat) => V.int ((n (p : Int) : Nat) : Int))) ∧ ps.length ≤ 1000 ∧ (∀ p ∈ ps, 0 ≤ p ∧ p < (cols.length : Nat) ∧ p < (m : Nat)) ∧
  ∀ H', Same H H' → Q (.bl (nextB cols ps n x)) H'
section
variable {P : Program} {w : World} {K : PySem.W.Frag} {mg : Str → Option Value} {base : Heap}
theorem ok_next {f : Addr} {fd : FuncData} {k : Nat} (F : Fun K "is_next" "is_next" sNext f fd) (ma : mg "all" = none) : FnOk P w K mg base CX0 (k + 1) f fd ["columns", "pads", "places", "figure"] (spNext K) := by
  refine F.ok scNext (fun vs H Q E h => ?_) (fun cdv A outer s H vs Q E hr h => ?_)
  · obtain ⟨lc, pA, pl, x, cols, ps, m, n, rfl, _⟩ := h
    rfl
  · obtain ⟨lc, pA, pl, x, cols, ps, m, n, rfl, ⟨xc, hlc, hxc⟩, hpA, hpl, hpsl, hps, q⟩ := h
    refine ⟨_, pss_one (ps_ret (pe_callB (cr_all rfl) (by rfl) ma (by decide +kernel) (pa_cons (pe_lc (own := [("pad", 4)]) (g := gName 4) (tt := tYes) rfl scNext.nd (pi_list (pv 1)) (blkOk_by (own := [("pad", 4)]) (N := nNext) (sc := defScope sNext) (by decide +kernel)) (fun _ _ _ _ _ => pg_name (i := 4) scNext.nd rfl (.inl rfl)) (fun _ _ _ _ _ => pts_nil) (fun _ _ _ _ _ => pe_cmpR (r := rEqD K) (op_eqD hr.units) (pe_slice (r := rSlL K) sl_list (pe_ix (r := rIx K) ix_seq (pv 0) (pv 4) (fun _ _ => rfl)) (po_some (pe_ix (r := rIx K) ix_seq (pv 2) (pv 4) (fun _ _ => rfl))) (po_some (pe_op op_add (pe_ix (r := rIx K) ix_seq (pv 2) (pv 4) (fun _ _ => rfl)) pe_int))) (pe_lst (pa_cons (pv 3) pa_nil)) (nomark _))) pa_nil))), ?_⟩
    refine ⟨.ref pA, rfl, pA, rfl, ⟨_, SqL.of hpA⟩, fun D nD => ?_⟩
    refine lc_list (K := K) (a := pA) (xs := ps.map V.int) (fun j H' => Same H H' ∧ H' D = some (.lst (((ps.take j).map fun p => decide (((cols.getD p.toNat []).drop (n p)).take 1 = [x])).map V.bl))) ⟨same_upd nD, upd_same⟩ (fun j H' _ hP => SqL.of (hP.1 _ _ hpA)) (fun j y H' hy hP => ?_) (fun H5 hP => ?_)
    · obtain ⟨sm, hD⟩ := hP
      rw [List.getElem?_map] at hy
      cases hpj : ps[j]? with
      | none => rw [hpj] at hy; cases hy
      | some p =>
        rw [hpj] at hy
        obtain rfl := Option.some.inj hy
        obtain ⟨g0, g1, g2⟩ := hps p (List.mem_of_getElem? hpj)
        obtain ⟨i, rfl⟩ := Int.eq_ofNat_of_zero_le g0
        have hi : i < cols.length := by omega
        have hi2 : i < m := by omega
        obtain ⟨vc, hvc, ac, rfl, hac⟩ := hxc.at (List.getElem?_eq_getElem hi)
        have hpl1 := sm _ _ hpl
        have hat : atI ((List.range m).map fun (p : Nat) => V.int ((n (p : Int) : Nat) : Int)) (i : Int) = some (.int ((n (i : Int) : Nat) : Int)) := atI_nat (by rw [List.getElem?_map, List.getElem?_range hi2]; rfl)
        refine ⟨rfl, yesT ⟨.ref lc, rfl, .int (i : Nat), rfl, .inl ⟨lc, xc, _, _, rfl, rfl, SqL.of (sm _ _ hlc), atI_nat hvc, .ref pl, rfl, .int (i : Nat), rfl, .inl ⟨pl, _, _, _, rfl, rfl, SqL.of hpl1, hat, _, rfl, .ref pl, rfl, .int (i : Nat), rfl, .inl ⟨pl, _, _, _, rfl, rfl, SqL.of hpl1, hat, _, _, rfl, rfl, _, rfl, ac, _, rfl, SqL.of (sm _ _ hac), fun l1 n1 => ?_⟩⟩⟩⟩⟩
        rw [cutV_nx, ← List.map_drop, ← List.map_take]
        have v1 := same_upd (o := .lst (((cols[i].drop (n (i : Int))).take 1).map V.int)) n1
        refine ⟨.int x, rfl, (show (1 : Nat) ≤ sizeLine by decide), fun l2 n2 => ?_⟩
        have v2 := same_upd (o := .lst [V.int x]) n2
        refine ⟨_, _, dpL (SqL.of (v2 _ _ upd_same)), dpL (ns := [x]) (SqL.of upd_same), shL _, shL _, ?_⟩
        rw [eqvL]
        refine ⟨_, v2 _ _ (v1 _ _ hD), ?_, Same.offUpd (sm.trans (v1.trans v2)) nD, ?_⟩
        · rw [List.length_map, List.length_map, List.length_take]
          exact small1000 (by omega)
        · rw [upd_same, take_snoc hpj, List.map_append, List.map_append]
          rw [show cols[i] = cols.getD ((i : Nat) : Int).toNat [] from by rw [Int.toNat_natCast, List.getD_eq_getElem?_getD, List.getElem?_eq_getElem hi]; rfl]
          rfl
    · obtain ⟨sm, hD⟩ := hP
      rw [List.length_map, List.take_length] at hD
      refine ⟨D, _, rfl, SqL.of hD, ?_⟩
      have := q _ sm
      unfold nextB at this
      rw [List.all_map]
      exact this
end
/-! ### where nothing is refused: Heap(..), plus; a new book -/
theorem BookAt.offL {K : PySem.W.Frag} {C : Addr} {H H' : Hp} {b q : Addr} {ys : List V} {cs : List Int} {fs : List (List Tri)} (h : BookAt K C H q cs fs) (e : Off b H H') (hb : H b = some (.lst ys)) (n : q ≠ b) : BookAt K C H' q cs fs := by
  obtain ⟨dx, a, b', xs, h1, h2, h3, h4⟩ := h
  have t : TS K H H' := TS.but e hb
  exact ⟨dx, a, b', xs, e _ _ n h1, t _ _ h2, t _ _ h3, h4.mono fun _ _ => FigT.ts t⟩
def spHInitC (K : PySem.W.Frag) (C CH : Addr) : Sp := fun vs H Q _ => ∃ (p dx bk rv : Addr) (cs : List Int) (fs : List (List Tri)) (row : List Int), vs = [.ref p, .ref bk, .ref rv] ∧ H p = some (.ins CH dx []) ∧ BookAt K C H bk cs fs ∧ (∀ f ∈ fs, GoodF cs f) ∧ cs.length ≤ 100 ∧ SqA K H rv (row.map V.int) ∧ row.length ≤ 1000 ∧
  (∀ x ∈ row, InF fs x) ∧ ∀ H', Off p H H' → HeapAt K CH H' p bk (tiersM fs row) → Q .non H'
theorem not_bad {fs : List (List Tri)} {row : List Int} (hin : ∀ x ∈ row, InF fs x) {z : Int} (hz : firstBad fs row = some z) : False := by
  have h1 := List.find?_some hz
  have h2 := hin z (List.mem_of_find?_eq_some hz)
  simp [h2] at h1
theorem hmakeC {K : PySem.W.Frag} {C CH : Addr} {H1 : Hp} {bk rv : Addr} {cs : List Int} {fs : List (List Tri)} {row : List Int} {Q : VK} {E : XK} (hK : BookAt K C H1 bk cs fs) (hG : ∀ f ∈ fs, GoodF cs f) (hc : cs.length ≤ 100) (hr : SqA K H1 rv (row.map V.int)) (hl : row.length ≤ 1000) (hin : ∀ x ∈ row, InF fs x)
    {x dx : Addr} (nx : H1 x = none) (ndx : H1 dx = none) (nxd : dx ≠ x) (q : ∀ H', Same H1 H' → HpOf K C CH H' x bk cs fs row → Q .non H') : spHInitC K C CH [.ref x, .ref bk, .ref rv] (upd (upd H1 dx (.own x)) x (.ins CH dx [])) Q E := by
  have v1 := same_upd (o := .own x) ndx
  have nx1 : (upd H1 dx (.own x)) x = none := by
    rw [upd_ne nxd.symm]
    exact nx
  have v2 := same_upd (o := .ins CH dx []) nx1
  have v12 := v1.trans v2
  refine ⟨x, dx, bk, rv, cs, fs, row, rfl, upd_same, hK.same v12, hG, hc, same_any v12 hr, hl, hin, fun H' off hh => ?_⟩
  have s14 : Same H1 H' := fun bb oo ee => off bb oo (ne_of_none ee nx) (v12 _ _ ee)
  exact q H' s14 ⟨hh, hK.same s14, hG, hc, hin⟩
theorem bmake {K : PySem.W.Frag} {C : Addr} {H1 : Hp} {p d : Addr} {cs : List Int} {xs : List V} {fs : List (List Tri)} {Q : VK} {E : XK} (hp : SqL K H1 p (cs.map V.int)) (hd : SqL K H1 d xs) (hA : All2 (FigT K H1) xs fs) (hC : GoodC cs) (hG : GoodB cs fs) (hl : fs.length ≤ 12)
    {x dx : Addr} (nx : H1 x = none) (ndx : H1 dx = none) (nxd : dx ≠ x) (q : ∀ H', Same H1 H' → BookAt K C H' x cs fs → Q .non H') : spInit K C [.ref x, .ref p, .ref d] (upd (upd H1 dx (.own x)) x (.ins C dx [])) Q E := by
  have v1 := same_upd (o := .own x) ndx
  have nx1 : (upd H1 dx (.own x)) x = none := by
    rw [upd_ne nxd.symm]
    exact nx
  have v2 := same_upd (o := .ins C dx []) nx1
  have v12 := v1.trans v2
  refine ⟨x, dx, p, d, cs, xs, fs, rfl, upd_same, v12.seq hp, v12.seq hd, hA.mono fun _ _ => FigT.ts (TS.of v12), hC, hG, hl, fun H' off hb => ?_⟩
  have s14 : Same H1 H' := fun bb oo ee => off bb oo (ne_of_none ee nx) (v12 _ _ ee)
  exact q H' s14 hb
section
variable {P : Program} {w : World} {K : PySem.W.Frag} {mg : Str → Option Value} {base : Heap}
theorem hinitC {f C CH CN : Addr} {fd : FuncData} {k : Nat} (G : FnOk P w K mg base (L2.CX P w) k f fd ["self", "book", "row"] (spHInit K C CH CN)) : FnOk P w K mg base CX0 k f fd ["self", "book", "row"] (spHInitC K C CH) := calm G fun vs H Q E h => by
  obtain ⟨p, dx, bk, rv, cs, fs, row, rfl, hp, hK, hG, hc, hr, hl, hin, q⟩ := h
  exact ⟨p, dx, bk, rv, cs, fs, row, rfl, hp, hK, hG, hc, hr, hl, fun _ => q, fun z hz => (not_bad hin hz).elim⟩
end
/-! ### beginning_of -/
abbrev sBeg : Stmt := topS 55
abbrev nBeg : List Str := ["heap", "stays", "book", "places", "barred", "row", "figure", "pads", "pad"]
theorem scBeg : FnScope nBeg ["heap", "stays"] (defScope sBeg) := ⟨rfl, rfl, rfl, by decide +kernel, rfl, by decide +kernel, by decide +kernel⟩
/-- amid the row: pre is gone through -/
structure BSt (H0 H' : Hp) (plA brA rwA l : Addr) (n : Nat) (pd : Int → List Int) (rr pre out gone : List Int) : Prop where
  sm : Same H0 H'
  pl : H' plA = some (.lst ((List.range n).map fun (p : Nat) => V.int (((onPad pd (p : Int) pre).length : Nat) : Int)))
  br : H' brA = some (.lst ((List.range n).map fun (p : Nat) => V.bl (barD pd gone (p : Int))))
  rw' : H' rwA = some (.lst (out.map V.int))
  rl : H' l = some (.lst (rr.map V.int))
theorem BSt.same {H0 H' H'' : Hp} {plA brA rwA l : Addr} {n : Nat} {pd : Int → List Int} {rr pre out gone : List Int} (h : BSt H0 H' plA brA rwA l n pd rr pre out gone) (e : Same H' H'') : BSt H0 H'' plA brA rwA l n pd rr pre out gone :=
  ⟨h.sm.trans e, e _ _ h.pl, e _ _ h.br, e _ _ h.rw', e _ _ h.rl⟩
theorem begGo_drop {pd : Int → List Int} {st : List Int → Int → Bool} {rr out gone : List Int} {i : Nat} {x : Int} (h : rr[i]? = some x) : begGo pd st (rr.take i) out gone (rr.drop i) = if falls pd st (rr.take i) gone x = true then begGo pd st (rr.take (i + 1)) out (gone ++ [x]) (rr.drop (i + 1)) else begGo pd st (rr.take (i + 1)) (out ++ [x]) gone (rr.drop (i + 1)) := by
  obtain ⟨hi, e⟩ := List.getElem?_eq_some_iff.mp h
  rw [List.drop_eq_getElem_cons hi, e, take_snoc h]
  rfl
theorem put_same {H H' : Hp} {a : Addr} {o : HO} (s : Same H H') (n : H a = none) : Same H (upd H' a o) := fun b x e => by
  rw [upd_ne (ne_of_none e n)]
  exact s _ _ e
theorem off_same {H H' H'' : Hp} {a : Addr} (s : Same H H') (n : H a = none) (o : Off a H' H'') : Same H H'' := fun b x e => o b x (ne_of_none e n) (s _ _ e)
theorem falses (n : Nat) (pd : Int → List Int) : (List.replicate n [V.bl false]).flatten = (List.range n).map fun (p : Nat) => V.bl (barD pd [] (p : Int)) := by
  rw [List.flatten_replicate_singleton, show (fun (p : Nat) => V.bl (barD pd [] (p : Int))) = fun _ => V.bl false from rfl, List.map_const', List.length_range]
theorem noughts (n : Nat) (pd : Int → List Int) : (List.replicate n [V.int 0]).flatten = (List.range n).map fun (p : Nat) => V.int (((onPad pd (p : Int) []).length : Nat) : Int) := by
  rw [List.flatten_replicate_singleton, show (fun (p : Nat) => V.int (((onPad pd (p : Int) []).length : Nat) : Int)) = fun _ => V.int 0 from rfl, List.map_const', List.length_range]
theorem bar_loop {K : PySem.W.Frag} {H0 H7 : Hp} {plA brA rwA l pA : Addr} {cs : List Int} {fs : List (List Tri)} {rr pre out gone : List Int} {fg : Int} {D : Ends} {v0 v1 v2 v3 v5 v6 y8 : Option V} (hG : ∀ f ∈ fs, GoodF cs f) (hF : InF fs fg) (nA : brA ≠ pA) (br0 : H0 brA = none) (n1 : plA ≠ brA) (n2 : brA ≠ rwA) (n3 : brA ≠ l)
    (B : BSt H0 H7 plA brA rwA l cs.length (pdF fs) rr pre out gone) (hpA : H7 pA = some (.lst ((pdF fs fg).map V.int)))
    (hq : ∀ (y8 : Option V) (H' : Hp), H' pA = some (.lst ((pdF fs fg).map V.int)) → BSt H0 H' plA brA rwA l cs.length (pdF fs) rr pre out (gone ++ [fg]) → D.nx [v0, v1, v2, v3, some (.ref brA), v5, v6, some (.ref pA), y8] H') :
    tFor (iList K (tVar 7)) (gName 8) (tAsg (tC (V.bl true)) (gSub (tVar 4) (tVar 8) rSetL)) D [v0, v1, v2, v3, some (.ref brA), v5, v6, some (.ref pA), y8] H7 := by
  refine ⟨.ref pA, rfl, pA, rfl, ⟨_, SqL.of hpA⟩, for_list (xs := (pdF fs fg).map V.int) (fun jj σ H' => ∃ (y8 : Option V), σ = [v0, v1, v2, v3, some (.ref brA), v5, v6, some (.ref pA), y8] ∧ Off brA H7 H' ∧ H' brA = some (.lst ((List.range cs.length).map fun (p : Nat) => V.bl (barD (pdF fs) gone (p : Int) || decide ((p : Int) ∈ (pdF fs fg).take jj)))))
    ⟨_, rfl, Off.refl, by rw [B.br]; congr 2; refine List.map_congr_left fun p' _ => ?_; simp⟩ (fun jj σ H' _ ⟨_, _, off, _⟩ => SqL.of (off _ _ nA.symm hpA)) ?_ ?_⟩
  · rintro jj x σ H' hx ⟨y8, rfl, off, hh⟩
    rw [List.getElem?_map] at hx
    cases hp2 : (pdF fs fg)[jj]? with
    | none => rw [hp2] at hx; cases hx
    | some p =>
      rw [hp2] at hx
      obtain rfl := Option.some.inj hx
      obtain ⟨hp0, hp1⟩ := pdF_mem hG hF (List.mem_of_getElem? hp2)
      obtain ⟨n, rfl⟩ := Int.eq_ofNat_of_zero_le hp0
      have hn : n < cs.length := by omega
      refine ⟨.ref brA, rfl, .int (n : Nat), rfl, brA, _, _, n, rfl, rfl, hh, ?_, ?_⟩
      · rw [List.length_map, List.length_range]
        unfold ixN
        rw [if_pos (by omega), if_pos (by omega), Int.toNat_natCast]
      · refine ⟨_, rfl, off.trans Off.upd, ?_⟩
        rw [upd_same, set_range]
        congr 2
        refine List.map_congr_left fun p' _ => ?_
        rw [take_snoc hp2]
        by_cases e : p' = n
        · subst e
          rw [if_pos rfl, decide_eq_true (List.mem_append_right _ (List.mem_singleton.mpr rfl)), Bool.or_true]
        · rw [if_neg e]
          congr 2
          rw [decide_eq_decide]
          exact ⟨fun z => List.mem_append_left _ z, fun z => (List.mem_append.mp z).elim id fun z => absurd (List.mem_singleton.mp z) (by omega)⟩
  · rintro σ H' ⟨y8, rfl, off, hh⟩
    rw [List.length_map, List.take_length] at hh
    refine hq _ _ (off _ _ nA.symm hpA) ⟨off_same B.sm br0 off, off _ _ n1 B.pl, ?_, off _ _ n2.symm B.rw', off _ _ n3.symm B.rl⟩
    rw [hh]
    congr 2
    refine List.map_congr_left fun p' _ => ?_
    rw [barD_snoc]
/-- the heaps of the figures that stay -/
structure BegQ (K : PySem.W.Frag) (C CH : Addr) (H : Hp) (p bk : Addr) (cs : List Int) (fs : List (List Tri)) (r : List Int) (st : List Int → Int → Bool) (tl : List V → Hp → VK → Prop) (Q : VK) : Prop where
  hp : HpOf K C CH H p bk cs fs r
  len : r.length ≤ 1000
  act : ∀ (i : Nat) (x : Int) (H' : Hp) (pA plA : Addr) (Q' : VK), (tiersM fs r).flatten[i]? = some x → Same H H' → H' pA = some (.lst ((pdF fs x).map V.int)) → H' plA = some (.lst ((List.range cs.length).map fun (p : Nat) => V.int (((onPad (pdF fs) (p : Int) ((tiersM fs r).flatten.take i)).length : Nat) : Int))) →
    (∀ H'', Same H' H'' → Q' (.bl (st ((tiersM fs r).flatten.take i) x)) H'') → tl [.ref pA, .ref plA, .int x] H' Q'
  q : ∀ H' x, Same H H' → H x = none → HpOf K C CH H' x bk cs fs (begM (pdF fs) st (tiersM fs r).flatten) → Q (.ref x) H'
section
variable {P : Program} {w : World} {K : PySem.W.Frag} {mg : Str → Option Value} {base : Heap}
theorem beg_runs {g C CH fB fP fR fS fM fI : Addr} {fdB fdP fdR fdS fdM fdI : FuncData} {k : Nat} (T : HpTxt K mg CH) (TB : BkTxt K mg C) (ma : mg "any" = none)
    (FP : Fun K "pads_of" "pads_of" sPadsOf fP fdP) (bP : Binds K fdP ["figure"] []) (gP : mg "pads_of" = some (.ref fP)) (GP : FnOk P w K mg base CX0 (k + 1) fP fdP ["figure"] (spPads K))
    (bB : Binds K fdB ["self"] []) (mB : Meth K CH "book" fB) (GB : FnOk P w K mg base CX0 (k + 1) fB fdB ["self"] (spHBook K CH))
    (bR : Binds K fdR ["self"] []) (mR : Meth K CH "row" fR) (GR : FnOk P w K mg base CX0 (k + 1) fR fdR ["self"] (spHRow K CH))
    (bS : Binds K fdS ["self", "at"] []) (mS : Meth K C "shape" fS) (GS : FnOk P w K mg base CX0 (k + 1) fS fdS ["self", "at"] (spShpC K C))
    (bM : Binds K fdM ["self"] []) (mM : Meth K C "pads" fM) (GM : FnOk P w K mg base CX0 (k + 1) fM fdM ["self"] (spPadsM K C))
    (MI : Mk K CH fI) (GI : FnOk P w K mg base CX0 k fI fdI ["self", "book", "row"] (spHInitC K C CH)) (bI : Binds K fdI ["self", "book", "row"] [])
    {cdv : Value} {A : Around} {outer : List Env} {s : Shared} {H : Hp} {Q : VK} {p bk f' c' : Addr} {cs : List Int} {fs : List (List Tri)} {r : List Int} {st : List Int → Int → Bool} {tl : List V → Hp → VK → Prop} {qn : Str} (hr : Room (k + 1) (A.deeper (envOfC "beginning_of" (defScope sBeg) s.heap.objs.size g cdv)))
    (act : ∀ p1 p2 p3 p4 p5, PE (cxOf C8.CX0 P w K mg base nBeg "beginning_of" (defScope sBeg) g cdv A outer s H C8.E0).nox (.Call (.Name "stays" p1) [.Name "pads" p2, .Name "places" p3, .Name "figure" p4] [] p5)
      (fun σ H1 Q => σ[1]? = some (some (.ref f')) ∧ ∃ v7, σ[7]? = some (some v7) ∧ ∃ v3, σ[3]? = some (some v3) ∧ ∃ v6, σ[6]? = some (some v6) ∧ H1 c' = some (LamX.CodeO c' qn) ∧ tl [v7, v3, v6] H1 Q))
    (hco : H c' = some (LamX.CodeO c' qn)) (h : BegQ K C CH H p bk cs fs r st tl Q) :
    ∃ t, PSs (cxOf C8.CX0 P w K mg base nBeg "beginning_of" (defScope sBeg) g cdv A outer s H C8.E0).nox (defBody sBeg) t ∧ t { nx := fun _ H' => Q .non H', rt := Q } (start nBeg [.ref p, .ref f']) H := by
  obtain ⟨hP, hrl, hst, q⟩ := h
  refine ⟨_, pss_cons (ps_set (i := 2) scBeg.nd rfl (.inl rfl) (pe_meth0 (pv 0) T.cl mB GB hr bB .nil pass0))
      (pss_cons (ps_set (i := 3) scBeg.nd rfl (.inl rfl) (pe_op op_rep (pe_lst (pa_cons pe_int pa_nil)) (pe_meth0 (pv 2) TB.cl mM GM hr bM .nil pass0)))
      (pss_cons (ps_set (i := 4) scBeg.nd rfl (.inr rfl) (pe_op op_rep (pe_lst (pa_cons pe_bl pa_nil)) (pe_meth0 (pv 2) TB.cl mM GM hr bM .nil pass0)))
      (pss_cons (ps_set (i := 5) scBeg.nd rfl (.inl rfl) (pe_lst pa_nil))
      (pss_cons (ps_for PassesOwn.never rfl (pi_list (pe_meth0 (pv 0) T.cl mR GR hr bR .nil pass0)) (pg_name (i := 6) scBeg.nd rfl (.inl rfl)) (pss_cons (ps_set (i := 7) scBeg.nd rfl (.inl rfl) (pe_call GP hr (by rfl) gP FP.kp bP .nil pass0 (pa_cons (pe_meth (pv 2) TB.cl mS GS hr bS .nil pass0 (pa_cons (pv 6) pa_nil)) pa_nil)))
      (C8.pss_cut (ps_if (PW.pt (pw_or (pt_val (pe_callB (cr_any rfl) (by rfl) ma (by decide +kernel) (pa_cons (pe_lc (own := [("pad", 8)]) (g := gName 8) (tt := tYes) rfl scBeg.nd (pi_list (pv 7)) (blkOk_by (own := [("pad", 8)]) (N := nBeg) (sc := defScope sBeg) (by decide +kernel)) (fun _ _ _ _ _ => pg_name (i := 8) scBeg.nd rfl (.inl rfl)) (fun _ _ _ _ _ => pts_nil) (fun _ _ _ _ _ => pe_ix (r := rIx K) ix_seq (pv 4) (pv 8) (fun _ _ => rfl))) pa_nil))) (pw_or1 (pt_not (pt_val (act _ _ _ _ _)))))) (pss_one (ps_for PassesOwn.never rfl (pi_list (pv 7)) (pg_name (i := 8) scBeg.nd rfl (.inl rfl)) (pss_one (ps_asg pe_bl (pg_sub (pv 4) (pv 8) set_list))))) (pss_one (ps_expr (pe_bm PySem.F.plainAttrs_list PySem.F.slot_list_append PySem.F.type_list_append mt_append (pv 5) (pa_cons (pv 6) pa_nil)))))
      (pss_one (ps_for PassesOwn.never rfl (pi_list (pv 7)) (pg_name (i := 8) scBeg.nd rfl (.inl rfl)) (pss_one (ps_augS (pv 3) (pv 8) get_list pe_int ip_add set_list)))))))
      (pss_one (ps_ret (pe_make MI GI hr (by rfl) T.mgC bI .nil pass0 (pa_cons (pv 2) (pa_cons (pv 5) pa_nil))))))))), ?_⟩
  obtain ⟨dx, t, hp, ht⟩ := id hP.hp
  obtain ⟨dk, ak, bk2, xk, hbk, _⟩ := id hP.bk
  have hK := hP.bk
  have hG := hP.good
  have hc := hP.len
  have hrr : (tiersM fs r).flatten.length ≤ 1000 := by
    rw [tiersM_len]
    exact hrl
  have hin : ∀ x ∈ (tiersM fs r).flatten, InF fs x := fun x hx => hP.inn x (tiersM_mem hx)
  -- book, places, barred, row
  refine ⟨.ref p, rfl, p, dx, _, rfl, hp, rfl, p, bk, _, rfl, hP.hp, (show (1 : Nat) ≤ sizeLine by decide), fun z0 nz0 => ?_⟩
  have u0 := same_upd (o := .lst [.int 0]) nz0
  have hsz : (1 : Nat) * ((cs.length : Nat) : Int).toNat ≤ sizeLine := by
    rw [Int.toNat_natCast, Nat.one_mul]
    have := small1000 (n := cs.length) (by omega)
    omega
  refine ⟨.ref bk, rfl, bk, dk, _, rfl, u0 _ _ hbk, rfl, bk, cs, fs, rfl, hK.same u0, z0, ((cs.length : Nat) : Int), [.int 0], rfl, rfl, upd_same, by omega, by omega, hsz, fun plA npl => ?_⟩
  rw [Int.toNat_natCast, noughts cs.length (pdF fs)]
  have u1 := same_upd (o := .lst ((List.range cs.length).map fun (p : Nat) => V.int (((onPad (pdF fs) (p : Int) []).length : Nat) : Int))) npl
  have s1 := u0.trans u1
  have pl0 : H plA = none := u0.free npl
  have hpl1 : (upd (upd H z0 (.lst [.int 0])) plA (.lst ((List.range cs.length).map fun (p : Nat) => V.int (((onPad (pdF fs) (p : Int) []).length : Nat) : Int)))) plA = some (.lst ((List.range cs.length).map fun (p : Nat) => V.int (((onPad (pdF fs) (p : Int) []).length : Nat) : Int))) := upd_same
  generalize upd (upd H z0 (.lst [.int 0])) plA (.lst ((List.range cs.length).map fun (p : Nat) => V.int (((onPad (pdF fs) (p : Int) []).length : Nat) : Int))) = H1 at s1 hpl1 ⊢
  clear u0 u1 npl nz0
  refine ⟨(show (1 : Nat) ≤ sizeLine by decide), fun z1 nz1 => ?_⟩
  have u2 := same_upd (o := .lst [.bl false]) nz1
  have s2 := s1.trans u2
  refine ⟨.ref bk, rfl, bk, dk, _, rfl, s2 _ _ hbk, rfl, bk, cs, fs, rfl, hK.same s2, z1, ((cs.length : Nat) : Int), [.bl false], rfl, rfl, upd_same, by omega, by omega, hsz, fun brA nbr => ?_⟩
  rw [Int.toNat_natCast, falses cs.length (pdF fs)]
  have u3 := same_upd (o := .lst ((List.range cs.length).map fun (p : Nat) => V.bl (barD (pdF fs) [] (p : Int)))) nbr
  have s3 := s2.trans u3
  have br0 : H brA = none := s2.free nbr
  have hpl3 := (u2.trans u3) _ _ hpl1
  have npb : plA ≠ brA := ne_of_none (u2 _ _ hpl1) nbr
  have hbr3 : (upd (upd H1 z1 (.lst [.bl false])) brA (.lst ((List.range cs.length).map fun (p : Nat) => V.bl (barD (pdF fs) [] (p : Int))))) brA = some (.lst ((List.range cs.length).map fun (p : Nat) => V.bl (barD (pdF fs) [] (p : Int)))) := upd_same
  generalize upd (upd H1 z1 (.lst [.bl false])) brA (.lst ((List.range cs.length).map fun (p : Nat) => V.bl (barD (pdF fs) [] (p : Int)))) = H3 at s3 hpl3 hbr3 ⊢
  clear u2 u3 s2 s1 hpl1 nbr nz1
  refine ⟨Nat.zero_le _, fun rwA nrw => ?_⟩
  have u4 := same_upd (o := .lst []) nrw
  have rw0 : H rwA = none := s3.free nrw
  have npr : plA ≠ rwA := ne_of_none hpl3 nrw
  have nbr : brA ≠ rwA := ne_of_none hbr3 nrw
  have s4 := s3.trans u4
  refine ⟨.ref p, rfl, p, dx, _, rfl, s4 _ _ hp, rfl, p, bk, _, rfl, hP.hp.same s4, hrr, fun H5 l s5 nl hl5 => ?_⟩
  have B0 : BSt H H5 plA brA rwA l cs.length (pdF fs) (tiersM fs r).flatten [] [] [] := ⟨s4.trans s5, (u4.trans s5) _ _ hpl3, (u4.trans s5) _ _ hbr3, s5 _ _ upd_same, hl5⟩
  have npl : plA ≠ l := ne_of_none (u4 _ _ hpl3) nl
  have nbl : brA ≠ l := ne_of_none (u4 _ _ hbr3) nl
  have nrl : rwA ≠ l := ne_of_none (upd_same (H := H3)) nl
  clear u4 s3 s4 s5 hpl3 hbr3 nrw nl hl5
  refine ⟨l, rfl, ⟨_, SqL.of B0.rl⟩, for_list (xs := (tiersM fs r).flatten.map V.int) (fun i σ H' => ∃ (y6 y7 y8 : Option V) (out gone : List Int), σ = [some (.ref p), some (.ref f'), some (.ref bk), some (.ref plA), some (.ref brA), some (.ref rwA), y6, y7, y8] ∧ BSt H H' plA brA rwA l cs.length (pdF fs) (tiersM fs r).flatten ((tiersM fs r).flatten.take i) out gone ∧ begM (pdF fs) st (tiersM fs r).flatten = begGo (pdF fs) st ((tiersM fs r).flatten.take i) out gone ((tiersM fs r).flatten.drop i) ∧ out.length ≤ i ∧ ∀ x ∈ out, InF fs x)
    ⟨_, _, _, [], [], rfl, B0, rfl, Nat.le_refl _, fun x hx => nomatch hx⟩ (fun i σ H' _ ⟨_, _, _, _, _, _, h, _⟩ => SqL.of h.rl) ?_ ?_⟩
  · clear B0
    rintro i x σ H' hx ⟨y6, y7, y8, out, gone, rfl, B, heq, hol, hom⟩
    rw [List.getElem?_map] at hx
    cases hpx : (tiersM fs r).flatten[i]? with
    | none => rw [hpx] at hx; cases hx
    | some fg =>
      rw [hpx] at hx
      obtain rfl := Option.some.inj hx
      have il : i < (tiersM fs r).flatten.length := (List.getElem?_eq_some_iff.mp hpx).1
      have hF : InF fs fg := hin fg (List.mem_of_getElem? hpx)
      obtain ⟨F0, hF0, hGF, eF, epd⟩ := pdF_in hG hF
      have hFl := hGF.len
      refine ⟨.ref bk, rfl, bk, dk, _, rfl, B.sm _ _ hbk, rfl, .int fg, rfl, bk, cs, fs, fg, rfl, hK.same B.sm, hF, fun v hv => ?_⟩
      rw [eF] at hv
      refine ⟨v, F0, rfl, hv, by omega, fun H6 pA s6 npA hpA => ?_⟩
      rw [← epd] at hpA
      have B6 := B.same s6
      have nA1 : plA ≠ pA := ne_of_none B.pl npA
      have nA2 : brA ≠ pA := ne_of_none B.br npA
      have nA3 : rwA ≠ pA := ne_of_none B.rw' npA
      clear B s6 npA
      rw [begGo_drop hpx] at heq
      -- the if
      refine ⟨fun σ H' => ∃ (y8 : Option V) (out gone : List Int), σ = [some (.ref p), some (.ref f'), some (.ref bk), some (.ref plA), some (.ref brA), some (.ref rwA), some (.int fg), some (.ref pA), y8] ∧ H' pA = some (.lst ((pdF fs fg).map V.int)) ∧ BSt H H' plA brA rwA l cs.length (pdF fs) (tiersM fs r).flatten ((tiersM fs r).flatten.take i) out gone ∧ begM (pdF fs) st (tiersM fs r).flatten = begGo (pdF fs) st ((tiersM fs r).flatten.take (i + 1)) out gone ((tiersM fs r).flatten.drop (i + 1)) ∧ out.length ≤ i + 1 ∧ ∀ x ∈ out, InF fs x, ?_, ?_⟩
      · refine ⟨.ref pA, rfl, pA, rfl, ⟨_, SqL.of hpA⟩, fun D nD => ?_⟩
        refine lc_list (K := K) (a := pA) (xs := (pdF fs fg).map V.int) (fun jj H' => Same H6 H' ∧ H' D = some (.lst ((((pdF fs fg).take jj).map fun p => barD (pdF fs) gone p).map V.bl))) ⟨same_upd nD, upd_same⟩ (fun jj H' _ hP => hP.1.seq (SqL.of hpA)) (fun jj x H' hx hP => ?_) (fun H7 hP => ?_)
        · obtain ⟨sm, hD⟩ := hP
          rw [List.getElem?_map] at hx
          cases hp2 : (pdF fs fg)[jj]? with
          | none => rw [hp2] at hx; cases hx
          | some p =>
            rw [hp2] at hx
            obtain rfl := Option.some.inj hx
            obtain ⟨hp0, hp1⟩ := pdF_mem hG hF (List.mem_of_getElem? hp2)
            obtain ⟨n, rfl⟩ := Int.eq_ofNat_of_zero_le hp0
            have hn : n < cs.length := by omega
            refine ⟨rfl, yesT ⟨.ref brA, rfl, .int (n : Nat), rfl, ix_any (.inl (SqL.of (sm _ _ B6.br))) (by rw [List.getElem?_map, List.getElem?_range hn]; rfl) ⟨_, hD, ?_, Same.offUpd sm nD, ?_⟩⟩⟩
            · rw [List.length_map, List.length_map, List.length_take, epd, List.length_map]
              exact small1000 (by omega)
            · rw [upd_same, take_snoc hp2, List.map_append, List.map_append]
              rfl
        · obtain ⟨s7, hD⟩ := hP
          rw [List.length_map, List.take_length] at hD
          have B7 := B6.same s7
          have hpA7 := s7 _ _ hpA
          clear B6 hpA s7 nD
          refine ⟨D, _, rfl, SqL.of hD, _, rfl, ?_⟩
          clear hD
          rw [List.any_map]
          have eany : (pdF fs fg).any (id ∘ fun p => barD (pdF fs) gone p) = (pdF fs fg).any fun p => barD (pdF fs) gone p := rfl
          rw [eany]
          refine ite2 (fun e => ?_) (fun e => ?_)
          · rw [if_pos (by unfold falls; rw [e]; rfl)] at heq
            exact bar_loop hG hF nA2 br0 npb nbr nbl B7 hpA7 fun y8 H8 h8 B8 => ⟨_, _, _, rfl, h8, B8, heq, by omega, hom⟩
          · have e : ((pdF fs fg).any fun p => barD (pdF fs) gone p) = false := by simpa using e
            refine ⟨rfl, .ref pA, rfl, .ref plA, rfl, .int fg, rfl, B7.sm _ _ hco, hst i fg H7 pA plA _ hpx B7.sm hpA7 B7.pl fun H8 s8 => ⟨_, rfl, ?_⟩⟩
            have B8 := B7.same s8
            have hpA8 := s8 _ _ hpA7
            clear B7 hpA7 s8
            refine ite2 (fun e2 => ?_) (fun e2 => ?_)
            · rw [if_pos (by unfold falls; rw [e, e2]; rfl)] at heq
              exact bar_loop hG hF nA2 br0 npb nbr nbl B8 hpA8 fun y8 H8 h8 B8 => ⟨_, _, _, rfl, h8, B8, heq, by omega, hom⟩
            · rw [if_neg (by unfold falls; rw [e]; simpa using e2)] at heq
              refine ⟨.ref rwA, rfl, .inl ⟨rfl, _, SqL.of B8.rw'⟩, .int fg, rfl, rwA, _, _, rfl, rfl, B8.rw', ?_, ?_⟩
              · rw [List.length_map]
                exact small1000 (by omega)
              · refine ⟨_, out ++ [fg], gone, rfl, by rw [upd_ne nA3.symm]; exact hpA8, ⟨put_same B8.sm rw0, by rw [upd_ne npr]; exact B8.pl, by rw [upd_ne nbr]; exact B8.br, by rw [upd_same, List.map_append]; rfl, by rw [upd_ne nrl.symm]; exact B8.rl⟩, heq, by rw [List.length_append]; exact Nat.add_le_add_right hol 1, fun x hx => ?_⟩
                rcases List.mem_append.mp hx with z | z
                · exact hom x z
                · rw [List.mem_singleton.mp z]
                  exact hF
      · rintro σ H8 ⟨y8', out, gone, rfl, hpA8, B8, heq, hol, hom⟩
        refine ⟨.ref pA, rfl, pA, rfl, ⟨_, SqL.of hpA8⟩, for_list (xs := (pdF fs fg).map V.int) (fun jj σ H' => ∃ (y8 : Option V), σ = [some (.ref p), some (.ref f'), some (.ref bk), some (.ref plA), some (.ref brA), some (.ref rwA), some (.int fg), some (.ref pA), y8] ∧ Off plA H8 H' ∧ H' plA = some (.lst ((List.range cs.length).map fun (p : Nat) => V.int ((((onPad (pdF fs) (p : Int) ((tiersM fs r).flatten.take i)).length : Nat) : Int) + ((((pdF fs fg).take jj).count (p : Int) : Nat) : Int)))))
          ⟨_, rfl, Off.refl, by rw [B8.pl]; congr 2⟩ (fun jj σ H' _ ⟨_, _, off, _⟩ => SqL.of (off _ _ nA1.symm hpA8)) ?_ ?_⟩
        · rintro jj x σ H' hx ⟨y8, rfl, off, hh⟩
          rw [List.getElem?_map] at hx
          cases hp2 : (pdF fs fg)[jj]? with
          | none => rw [hp2] at hx; cases hx
          | some p =>
            rw [hp2] at hx
            obtain rfl := Option.some.inj hx
            obtain ⟨hp0, hp1⟩ := pdF_mem hG hF (List.mem_of_getElem? hp2)
            obtain ⟨n, rfl⟩ := Int.eq_ofNat_of_zero_le hp0
            have hn : n < cs.length := by omega
            refine ⟨.ref plA, rfl, .int (n : Nat), rfl, plA, _, _, _, rfl, rfl, SqL.of hh, atI_nat (j := n) (by rw [List.getElem?_map, List.getElem?_range hn]; rfl), _, _, rfl, rfl, plA, _, _, n, rfl, rfl, hh, ?_, ?_⟩
            · rw [List.length_map, List.length_range]
              unfold ixN
              rw [if_pos (by omega), if_pos (by omega), Int.toNat_natCast]
            · refine ⟨_, rfl, off.trans Off.upd, ?_⟩
              rw [upd_same, set_range]
              congr 2
              refine List.map_congr_left fun p' _ => ?_
              rw [take_snoc hp2, List.count_append]
              by_cases e : p' = n
              · subst e
                rw [if_pos rfl, List.count_singleton_self]
                exact congrArg V.int (by dsimp only; omega)
              · rw [if_neg e, List.count_cons_of_ne (fun z => e (by omega)), List.count_nil]
                rfl
        · rintro σ H9 ⟨y8, rfl, off, hh⟩
          rw [List.length_map, List.take_length] at hh
          refine ⟨_, _, _, out, gone, rfl, ⟨off_same B8.sm pl0 off, ?_, off _ _ npb.symm B8.br, off _ _ npr.symm B8.rw', off _ _ npl.symm B8.rl⟩, heq, hol, hom⟩
          rw [hh]
          congr 2
          refine List.map_congr_left fun p' _ => ?_
          have nd : (pdF fs fg).Nodup := by
            rw [epd]
            exact hGF.up.imp fun h z => by omega
          rw [onPad_snoc hpx, List.length_append, nd.count]
          by_cases e : (p' : Int) ∈ pdF fs fg
          · rw [if_pos e, if_pos e]
            exact congrArg V.int (by show _ = (((_ : Nat) + 1 : Nat) : Int); omega)
          · rw [if_neg e, if_neg e]
            exact congrArg V.int (by show _ = (((_ : Nat) + 0 : Nat) : Int); omega)
  · rintro σ H' ⟨y6, y7, y8, out, gone, rfl, B, heq, hol, hom⟩
    rw [List.length_map] at hol heq
    rw [List.drop_length] at heq
    have heq : begM (pdF fs) st (tiersM fs r).flatten = out := heq
    refine ⟨.ref bk, rfl, .ref rwA, rfl, fun x dx nx ndx nxd => hmakeC (hK.same B.sm) hG hc (.inl (SqL.of B.rw')) (by omega) hom nx ndx nxd fun H9 s9 h9 => ⟨rfl, ?_⟩⟩
    rw [← heq] at h9
    exact q _ _ (B.sm.trans s9) (B.sm.free nx) h9
end
/-! ### what stays where a lambda was made -/
theorem bag_lst {H : Hp} {b c : Addr} (h : Bag H b c) : ∃ l, H b = some (.lst l) := by
  obtain ⟨cells, a, r, s, h1, _⟩ := h.ex
  exact ⟨_, h1⟩
theorem tabs_off {T : List (Addr × Str)} {H H' : Hp} {b c : Addr} (t : LamX.Tabs T H) (hB : Bag H b c) (o : Off b H H') : LamX.Tabs T H' := fun p hp => by
  obtain ⟨l, hl⟩ := bag_lst hB
  obtain ⟨ps, h1, h2, h3⟩ := t p hp
  refine ⟨ps, o _ _ (fun z => by rw [z, hl] at h1; cases h1) h1, h2, fun pos cv hc => ?_⟩
  obtain ⟨c', e1, e2⟩ := h3 pos cv hc
  exact ⟨c', e1, o _ _ (fun z => by rw [z, hl] at e2; unfold LamX.CodeO at e2; cases e2) e2⟩
theorem sqT_ext {K : PySem.W.Frag} {H H' : Hp} {a : Addr} {xs : List V} (h : SqT K H a xs) (o : LamX.ExtN H H') : SqT K H' a xs := by
  rcases h with (q | ⟨ob, q⟩) | q
  · exact .inl (.inl (o _ _ q fun _ z => nomatch z))
  · exact .inl (.inr ⟨ob, o _ _ q (fun _ z => nomatch z)⟩)
  · exact .inr q
theorem TS.ext {K : PySem.W.Frag} {H H' : Hp} (o : LamX.ExtN H H') : TS K H H' := fun _ _ h => sqT_ext h o
theorem bag_ext {H H' : Hp} {b c : Addr} (h : Bag H b c) (o : LamX.ExtN H H') : Bag H' b c := by
  obtain ⟨cells, a, r, s, h1, h2, h3⟩ := h.ex
  exact ⟨cells, a, r, s, o _ _ h1 (fun _ z => nomatch z), o _ _ h2 (fun _ z => nomatch z), h3⟩
theorem BookAt.ext {K : PySem.W.Frag} {C : Addr} {H H' : Hp} {p : Addr} {cs : List Int} {fs : List (List Tri)} (h : BookAt K C H p cs fs) (e : LamX.ExtN H H') : BookAt K C H' p cs fs := by
  obtain ⟨dx, a, b, xs, h1, h2, h3, h4⟩ := h
  exact ⟨dx, a, b, xs, e _ _ h1 (fun _ z => nomatch z), sqT_ext h2 e, sqT_ext h3 e, h4.mono fun _ _ => FigT.ts (TS.ext e)⟩
theorem HpOf.ext {K : PySem.W.Frag} {C CH : Addr} {H H' : Hp} {p bk : Addr} {cs : List Int} {fs : List (List Tri)} {row : List Int} (h : HpOf K C CH H p bk cs fs row) (o : LamX.ExtN H H') : HpOf K C CH H' p bk cs fs row := by
  obtain ⟨dx, t, h2, h3⟩ := h.hp
  exact ⟨⟨dx, t, o _ _ h2 (fun _ z => nomatch z), h3.ts (TS.ext o)⟩, h.bk.ext o, h.good, h.len, h.inn⟩
/-! ### Heap.meet -/
def tBeg (K : PySem.W.Frag) (C CH : Addr) (T : List (Addr × Str)) (te : TE) (tl : L2.St → List V → Hp → VK → Prop) : TE := fun σ H Q => te σ H fun y H1 => ∃ p, y = .ref p ∧ LamX.Tabs T H1 ∧ ∀ H2, LamX.ExtN H1 H2 → LamX.Tabs T H2 → ∃ (bk : Addr) (cs : List Int) (fs : List (List Tri)) (r : List Int) (st : List Int → Int → Bool), BegQ K C CH H2 p bk cs fs r st (tl σ) Q
section
open LamX NdefX
variable {X : Cx}
theorem pe_beg {T : List (Addr × Str)} {gG c P : Addr} {fdG : FuncData} {C CH fB fP fR fS fM fI : Addr} {fdB fdP fdR fdS fdM fdI : FuncData} {k : Nat} {params : Arguments} {body : Expr} {scope : Scope} {ps fr : List Str} {js : List Nat} {tb te : TE} {p p0 lpos pos : Pos}
    (FG : Fun X.K "beginning_of" "beginning_of" sBeg gG fdG) (mG : X.mg "beginning_of" = some (.ref gG)) (bG : L2.Binds X.K fdG ["heap", "stays"] []) (hg : Gl X "beginning_of")
    (tab : TabB X.base X.mg c P) (hcode : X.env.code = .ref c) (hmT : (P, X.env.qual ++ "<lambda>") ∈ T) (hu : ∀ p ∈ T, p.1 = P → p.2 = X.env.qual ++ "<lambda>") (hr : Room (k + 2) X.A)
    (S : NScope (ps ++ fr) ps fr scope) (hfree : ∀ y ∈ scope.names, y.2 = .free → X.env.scope.names.lookup y.1 = some .cell ∨ X.env.scope.names.lookup y.1 = some .free) (hfr0 : ∀ y ∈ fr, (y, NameKind.free) ∈ scope.names) (hjs : js.map (fun j => X.N[j]?) = fr.map some) (hdef : defaultsOf params X.env = ([], []))
    (hbind : ∀ (q : Str) (cl : List (Str × Addr)) (pm cv ctv : Value) (us : List Value), us.length = ps.length → bindArgs (PySem.W.kla_fn "<lambda>" q params body scope cl pm cv ctv) ⟨us, []⟩ = pure (ps.zip us))
    (hbody : ∀ (A : Around) (outer : List Env) (s : Shared) (H : Hp) (f c' : Addr), Room k (A.deeper (envF (lamF X params scope c') f s.heap.objs.size)) → PE (ncx C8.CX0 X.prog X.w X.K X.mg X.base (ps ++ fr) (lamF X params scope c') f A outer s H C8.E0) body tb)
    (TH : HpTxt X.K X.mg CH) (TB : BkTxt X.K X.mg C) (ma : X.mg "any" = none)
    (FP : Fun X.K "pads_of" "pads_of" sPadsOf fP fdP) (bP : L2.Binds X.K fdP ["figure"] []) (gP : X.mg "pads_of" = some (.ref fP)) (GP : FnOk X.prog X.w X.K X.mg X.base CX0 (k + 1) fP fdP ["figure"] (spPads X.K))
    (bB : L2.Binds X.K fdB ["self"] []) (mB : Meth X.K CH "book" fB) (GB : FnOk X.prog X.w X.K X.mg X.base CX0 (k + 1) fB fdB ["self"] (spHBook X.K CH))
    (bR : L2.Binds X.K fdR ["self"] []) (mR : Meth X.K CH "row" fR) (GR : FnOk X.prog X.w X.K X.mg X.base CX0 (k + 1) fR fdR ["self"] (spHRow X.K CH))
    (bS : L2.Binds X.K fdS ["self", "at"] []) (mS : Meth X.K C "shape" fS) (GS : FnOk X.prog X.w X.K X.mg X.base CX0 (k + 1) fS fdS ["self", "at"] (spShpC X.K C))
    (bM : L2.Binds X.K fdM ["self"] []) (mM : Meth X.K C "pads" fM) (GM : FnOk X.prog X.w X.K X.mg X.base CX0 (k + 1) fM fdM ["self"] (spPadsM X.K C))
    (MI : Mk X.K CH fI) (GI : FnOk X.prog X.w X.K X.mg X.base CX0 k fI fdI ["self", "book", "row"] (spHInitC X.K C CH)) (bI : L2.Binds X.K fdI ["self", "book", "row"] [])
    (he : PE X (.Name "self" p0) te) :
    PE X (.Call (.Name "beginning_of" p) [.Name "self" p0, .Lambda params body scope lpos] [] pos) (tBeg X.K C CH T te fun σ vs H' Q' => vs.length = ps.length ∧ tb (startF (ps ++ fr) vs (js.map (slotAt σ))) H' Q') := by
  refine ⟨fun pins s σ H Q I h => ?_⟩
  refine wpAny_Call_Name_kw (ld_glob I hg mG ?_)
  refine PySem.W.callWith_K (h₀ := X.base) I.ok.mod.kin FG.kp ?_ (by rfl) (by rfl)
  show wpAny _ _ (spliced ((false, eval (.Name "self" p0) X.env) :: backTo pos (starEach [.Lambda params body scope lpos] X.env))) _ _ s
  refine Calls.spliced_cons (thn (he.run pins s σ H _ I h) fun u s1 z => ?_)
  obtain ⟨y, H1, I1, ry, p, rfl, hT, hb⟩ := z
  have hf0 : ∀ y ∈ scope.names, y.2 = .free → ∃ c, X.env.cells.lookup y.1 = some c := fun y hy e => (hfree y hy e).elim (fun z => I1.ok.has _ (.inl z)) fun z => I1.ok.has _ (.inr z)
  refine Calls.spliced_cons (lam_make2 I1 tab hcode hmT hu hT hdef hf0 fun f c' pm' ctv H2 s2 I2 eN T2 hf hfn hfr hco => ?_)
  refine Calls.spliced_nil ⟨I2.kIn, ?_⟩
  obtain ⟨bk, cs, fs, r, st, hq⟩ := hb H2 eN T2
  obtain ⟨oc, od, kV, doc, pmT, an, cdv, ct, osl, rfl, lk, hcg⟩ := FG.ex
  have rc : codeAny (model X.prog X.w) X.A (.call (.ref gG) ⟨[u, .ref f], []⟩) (CR C8.CX0 X.stack X.prog X.w H2 s2 Q C8.E0) s2 := by
    refine run_ofS (N := nBeg) (ps := ["heap", "stays"]) (us := [u, .ref f]) (vs := [.ref p, .ref f]) (k := k + 1) lk hcg scBeg hr I2.env0 (bG s2 [u, .ref f] I2.kIn rfl) (.cons ry (.cons rfl .nil)) rfl fun hr' => ?_
    obtain ⟨t, ht, hq'⟩ := beg_runs (k := k) (g := gG) (cdv := cdv) (A := X.A) (outer := X.stack) (s := s2) (H := H2) (f' := f) (c' := c') (qn := X.env.qual ++ "<lambda>") TH TB ma FP bP gP GP bB mB GB bR mR GR bS mS GS bM mM GM MI GI bI hr'
      (tl := fun vs H' Q' => vs.length = ps.length ∧ tb (startF (ps ++ fr) vs (js.map (slotAt σ))) H' Q') (fun p1 p2 p3 p4 p5 => pe_actN (Ng := nBeg) (a := "stays") (i := 1) (ps := ps) (fr := fr) (js := js) I2 S (Caps.made I2.ok hfree hfr0 hjs) hf hfn hfr hbind hr' (fun A outer s H hr2 => hbody A outer s H f c' hr2) rfl (.inl rfl) (pa_cons (pv 7) (pa_cons (pv 3) (pa_cons (pv 6) pa_nil)))) hco hq
    exact ⟨t, ht.nox, hq'⟩
  refine wpAny_call (codeAny_mono rc fun r s3 hq => ?_)
  cases r with
  | error e => exact (show False from hq).elim
  | ok fl =>
    cases fl with
    | ret u => exact I2.after hq
    | next => exact False.elim hq
    | brk => exact False.elim hq
    | cont => exact False.elim hq
end
abbrev sHMeet : Stmt := inClass (topS 53) 13
abbrev nHMeet : List Str := ["self", "other", "columns"]
theorem scHMeet : FnScope nHMeet ["self", "other"] (defScope sHMeet) := ⟨rfl, rfl, rfl, by decide +kernel, rfl, by decide +kernel, by decide +kernel⟩
def qnM : Str := (envOfC "Heap.meet" (defScope sHMeet) 0 0 .none).qual ++ "<lambda>"
/-- T tells the table of meet -/
def MT (pM : Addr) (T : List (Addr × Str)) : Prop := (pM, qnM) ∈ T ∧ ∀ p ∈ T, p.1 = pM → p.2 = qnM
def spHMeet (K : PySem.W.Frag) (C CH CO pM : Addr) : Sp := fun vs H Q E => ∃ (T : List (Addr × Str)) (p q bk bk' : Addr) (cs cs' : List Int) (fs fs' : List (List Tri)) (r s : List Int), vs = [.ref p, .ref q] ∧ MT pM T ∧ LamX.Tabs T H ∧ HpOf K C CH H p bk cs fs r ∧ HpOf K C CH H q bk' cs' fs' s ∧ r.length ≤ 1000 ∧ s.length ≤ 1000 ∧
  (cs = cs' ∧ fs = fs' → ∀ H' x m, LamX.ExtN H H' → LamX.Tabs T H' → Gcb (pdF fs) r s m → m.length ≤ r.length → HpOf K C CH H' x bk cs fs m → Q (.ref x) H') ∧ (¬ (cs = cs' ∧ fs = fs') → refuseN 7 CO [] H E)
theorem next_in {cs : List Int} {fs : List (List Tri)} (hG : ∀ f ∈ fs, GoodF cs f) {x : Int} (hx : InF fs x) (rs pre : List Int) : nextB (colsM fs cs.length rs) (pdF fs x) (fun p => (onPad (pdF fs) p pre).length) x = nextIn (pdF fs) rs pre x := by
  unfold nextB nextIn
  rw [Bool.eq_iff_iff, List.all_eq_true, List.all_eq_true]
  have e : ∀ p ∈ pdF fs x, (colsM fs cs.length rs).getD p.toNat [] = onPad (pdF fs) p rs := fun p hp => by
    obtain ⟨g0, g1⟩ := pdF_mem hG hx hp
    unfold colsM
    rw [List.getD_eq_getElem?_getD, List.getElem?_map, List.getElem?_range (by omega)]
    show onPad (pdF fs) ((p.toNat : Nat) : Int) rs = _
    rw [Int.toNat_of_nonneg g0]
  exact ⟨fun h p hp => by rw [← e p hp]; exact h p hp, fun h p hp => by rw [e p hp]; exact h p hp⟩
section
open LamX NdefX
variable {P : Program} {w : World} {K : PySem.W.Frag} {mg : Str → Option Value} {base : Heap}
theorem ok_hmeet {f C CH CO cM pM fC fCo gG fN fB fP fR fS fM fI : Addr} {fdC fdCo fdG fdN fdB fdP fdR fdS fdM fdI : FuncData} {k : Nat} {oc kV doc pm ct : Value} {od an : Option Addr} {osl : Array (Option Value)}
    (lk : K.lookup f = some ⟨oc, od, .func (PySem.W.fnOf "meet" "Heap.meet" (defArgs sHMeet) (defBody sHMeet) (defScope sHMeet) .none kV doc pm an (.ref cM) ct), osl⟩) (hcd : PySem.W.codeIn K (.ref cM) "Heap.meet" = true) (tab : LamX.TabB base mg cM pM)
    (T : HpTxt K mg CH) (TB : BkTxt K mg C) (ma : mg "any" = none)
    (bC : Binds K fdC ["self", "other"] []) (mC : Meth K CH "check_book" fC) (GC : FnOk P w K mg base (L2.CX P w) (k + 2) fC fdC ["self", "other"] (spHChk K C CH CO))
    (bCo : Binds K fdCo ["self"] []) (mCo : Meth K CH "columns" fCo) (GCo : FnOk P w K mg base CX0 (k + 2) fCo fdCo ["self"] (spHCols K C CH))
    (FG : Fun K "beginning_of" "beginning_of" sBeg gG fdG) (bG : Binds K fdG ["heap", "stays"] []) (gGG : mg "beginning_of" = some (.ref gG))
    (FN : Fun K "is_next" "is_next" sNext fN fdN) (bN : Binds K fdN ["columns", "pads", "places", "figure"] []) (gN : mg "is_next" = some (.ref fN)) (GN : FnOk P w K mg base CX0 k fN fdN ["columns", "pads", "places", "figure"] (spNext K))
    (FP : Fun K "pads_of" "pads_of" sPadsOf fP fdP) (bP : Binds K fdP ["figure"] []) (gP : mg "pads_of" = some (.ref fP)) (GP : FnOk P w K mg base CX0 (k + 1) fP fdP ["figure"] (spPads K))
    (bB : Binds K fdB ["self"] []) (mB : Meth K CH "book" fB) (GB : FnOk P w K mg base CX0 (k + 1) fB fdB ["self"] (spHBook K CH))
    (bR : Binds K fdR ["self"] []) (mR : Meth K CH "row" fR) (GR : FnOk P w K mg base CX0 (k + 1) fR fdR ["self"] (spHRow K CH))
    (bS : Binds K fdS ["self", "at"] []) (mS : Meth K C "shape" fS) (GS : FnOk P w K mg base CX0 (k + 1) fS fdS ["self", "at"] (spShpC K C))
    (bM : Binds K fdM ["self"] []) (mM : Meth K C "pads" fM) (GM : FnOk P w K mg base CX0 (k + 1) fM fdM ["self"] (spPadsM K C))
    (MI : Mk K CH fI) (GI : FnOk P w K mg base CX0 k fI fdI ["self", "book", "row"] (spHInitC K C CH)) (bI : Binds K fdI ["self", "book", "row"] []) :
    FnOk P w K mg base (L2.CX P w) (k + 3) f (PySem.W.fnOf "meet" "Heap.meet" (defArgs sHMeet) (defBody sHMeet) (defScope sHMeet) .none kV doc pm an (.ref cM) ct) ["self", "other"] (spHMeet K C CH CO pM) := by
  refine fn_of lk hcd scHMeet (fun vs H Q E h => ?_) (fun A outer s0 H vs Q E hr h => ?_)
  · obtain ⟨_, p, q, bk, bk', cs, cs', fs, fs', r, s, rfl, _⟩ := h
    rfl
  · obtain ⟨Tl, p, q, bk, bk', cs, cs', fs, fs', r, s, rfl, hMT, hT, hP, hQ, hrl, hsl, q0, q1⟩ := h
    refine ⟨_, pss_cons (ps_expr (pe_meth (pv 0) T.cl mC GC hr bC .nil (passes_call (takes_of rfl rfl rfl rfl) (fun _ _ _ _ h => h)) (pa_cons (pv 1) pa_nil)))
      (pss_cons (ps_set (i := 2) scHMeet.nd rfl (.inr rfl) (pe_meth0 (pv 1) T.cl mCo GCo hr bCo .nil pass0))
      (pss_one (ps_ret (pe_beg (T := Tl) (k := k) (ps := ["pads", "places", "figure"]) (fr := ["columns"]) (js := [2]) FG gGG bG (by rfl) tab rfl hMT.1 hMT.2 hr (nscope_by (by decide +kernel)) (ndef_free (sc := defScope sHMeet) (fr := ["columns"]) (by decide +kernel)) (ndef_fr (sc := defScope sHMeet) (by decide +kernel)) rfl rfl (fun _ _ _ _ _ us hl => match us, hl with | [_, _, _], _ => rfl) (fun A2 outer2 s2 H2 f2 c2 hr2 => pe_call GN hr2 (by rfl) gN FN.kp bN .nil pass0 (pa_cons (pv 3) (pa_cons (pv 0) (pa_cons (pv 1) (pa_cons (pv 2) pa_nil))))) T TB ma FP bP gP GP bB mB GB bR mR GR bS mS GS bM mM GM MI GI bI (pv 0))))), ?_⟩
    obtain ⟨dx, t, hp, ht⟩ := id hP.hp
    obtain ⟨dx', t', hp', ht'⟩ := id hQ.hp
    have lr := tiersM_len fs r
    have ls := tiersM_len fs' s
    refine ⟨.ref p, rfl, p, dx, _, rfl, hp, rfl, .ref q, rfl, p, q, bk, bk', cs, cs', fs, fs', _, _, rfl, hP.hp, hQ.hp, hP.bk, hQ.bk, fun e => ?_, q1⟩
    obtain ⟨rfl, rfl⟩ := e
    have hc := hP.len
    refine ⟨.ref q, rfl, q, dx', _, rfl, hp', rfl, q, bk', cs, fs, _, rfl, hQ.hp, hQ.bk, hQ.good, hc, (fun x hx => hQ.inn x (tiersM_mem hx)), by omega, fun H1 lc xc s1 n1 h1 hz1 => ?_⟩
    have hcol : ColsAt H1 lc (colsM fs cs.length (tiersM fs s).flatten) := ⟨xc, h1, hz1.mono fun v t ⟨a, e1, _, e2⟩ => ⟨a, e1, e2⟩⟩
    have hcl : (colsM fs cs.length (tiersM fs s).flatten).length = cs.length := by unfold colsM; rw [List.length_map, List.length_range]
    refine ⟨.ref p, rfl, p, rfl, hT.ext s1, fun H2 e2 T2 => ⟨bk, cs, fs, r, nextIn (pdF fs) (tiersM fs s).flatten, (hP.same s1).ext e2, hrl, fun i x H3 pA plA Q' hx s3 hpA hpl hQ' => ⟨rfl, .ref lc, rfl, .ref pA, rfl, .ref plA, rfl, .int x, rfl, lc, pA, plA, x, _, pdF fs x, cs.length, fun p => (onPad (pdF fs) p ((tiersM fs r).flatten.take i)).length, rfl, (hcol.ext e2).same s3, hpA, hpl, ?_, fun p hp => ?_, fun H4 s4 => ?_⟩, fun H3 x s3 nx hX => ?_⟩⟩
    · have hF : InF fs x := hP.inn x (tiersM_mem (List.mem_of_getElem? hx))
      obtain ⟨F0, hF0, hGF, eF, epd⟩ := pdF_in hP.good hF
      have hFl := hGF.len
      rw [epd, List.length_map]
      omega
    · have hF : InF fs x := hP.inn x (tiersM_mem (List.mem_of_getElem? hx))
      obtain ⟨g0, g1⟩ := pdF_mem hP.good hF hp
      rw [hcl]
      exact ⟨g0, g1, g1⟩
    · have hF : InF fs x := hP.inn x (tiersM_mem (List.mem_of_getElem? hx))
      rw [next_in hP.good hF]
      exact hQ' H4 s4
    · obtain ⟨g1, _, g3⟩ := begM_ok (pdF fs) (tiersM fs r).flatten (tiersM fs s).flatten
      refine q0 ⟨rfl, rfl⟩ H3 x _ ((ExtN.of s1).trans (e2.trans (ExtN.of s3))) (T2.ext s3) (g1.congr (tiersM_on fs r) (tiersM_on fs s) fun _ => rfl) ?_ hX
      rw [lr] at g3
      exact g3
end
def spHMeetC (K : PySem.W.Frag) (C CH pM : Addr) : Sp := fun vs H Q _ => ∃ (T : List (Addr × Str)) (p q bk bk' : Addr) (cs : List Int) (fs : List (List Tri)) (r s : List Int), vs = [.ref p, .ref q] ∧ MT pM T ∧ LamX.Tabs T H ∧ HpOf K C CH H p bk cs fs r ∧ HpOf K C CH H q bk' cs fs s ∧ r.length ≤ 1000 ∧ s.length ≤ 1000 ∧
  ∀ H' x m, LamX.ExtN H H' → LamX.Tabs T H' → Gcb (pdF fs) r s m → m.length ≤ r.length → HpOf K C CH H' x bk cs fs m → Q (.ref x) H'
section
variable {P : Program} {w : World} {K : PySem.W.Frag} {mg : Str → Option Value} {base : Heap}
theorem hmeetC {f C CH CO pM : Addr} {fd : FuncData} {k : Nat} (G : FnOk P w K mg base (L2.CX P w) k f fd ["self", "other"] (spHMeet K C CH CO pM)) : FnOk P w K mg base CX0 k f fd ["self", "other"] (spHMeetC K C CH pM) := calm G fun vs H Q E h => by
  obtain ⟨T, p, q, bk, bk', cs, fs, r, s, rfl, hM, hT, hP, hQ, h1, h2, q0⟩ := h
  exact ⟨T, p, q, bk, bk', cs, cs, fs, fs, r, s, rfl, hM, hT, hP, hQ, h1, h2, fun _ => q0, fun bad => absurd ⟨rfl, rfl⟩ bad⟩
end
/-! ### Heap.joined -/
theorem dep_nn {cs : List Int} : ∀ {f : List Tri}, (∀ t ∈ f, GoodT cs t) → ∀ p, 0 ≤ depAt f p
  | [], _, _ => Int.le_refl _
  | t :: f, h, p => by
    have ih := dep_nn (f := f) (fun u hu => h u (List.mem_cons_of_mem _ hu)) p
    have hd := (h t List.mem_cons_self).d0
    unfold depAt at ih ⊢
    by_cases e : t.1 = p
    · rw [List.filter_cons_of_pos (by simpa using e), List.map_cons, List.sum_cons]
      omega
    · rw [List.filter_cons_of_neg (by simpa using e)]
      exact ih
theorem dep_pos {cs : List Int} : ∀ {f : List Tri}, (∀ t ∈ f, GoodT cs t) → ∀ {p}, p ∈ f.map (·.1) → 0 < depAt f p
  | [], _, _, h => nomatch h
  | t :: f, h, p, hp => by
    have nn := dep_nn (f := f) (fun u hu => h u (List.mem_cons_of_mem _ hu)) p
    have hd := (h t List.mem_cons_self).d0
    by_cases e : t.1 = p
    · unfold depAt at nn ⊢
      rw [List.filter_cons_of_pos (by simpa using e), List.map_cons, List.sum_cons]
      omega
    · have hp2 : p ∈ f.map (·.1) := by
        rcases List.mem_cons.mp hp with z | z
        · exact absurd z.symm e
        · exact z
      have ih := dep_pos (f := f) (fun u hu => h u (List.mem_cons_of_mem _ hu)) hp2
      unfold depAt at ih ⊢
      rw [List.filter_cons_of_neg (by simpa using e)]
      exact ih
theorem tkn_nn {cs : List Int} {fs : List (List Tri)} (hG : ∀ f ∈ fs, GoodF cs f) : ∀ {row : List Int}, (∀ x ∈ row, InF fs x) → ∀ p, 0 ≤ tknAt fs row p
  | [], _, _ => Int.le_refl _
  | x :: row, h, p => by
    have ih := tkn_nn hG (row := row) (fun u hu => h u (List.mem_cons_of_mem _ hu)) p
    obtain ⟨F0, _, hGF, eF, _⟩ := pdF_in hG (h x List.mem_cons_self)
    have := dep_nn hGF.all p
    unfold tknAt at ih ⊢
    rw [List.map_cons, List.sum_cons, eF]
    omega
theorem tkn_pos {cs : List Int} {fs : List (List Tri)} (hG : ∀ f ∈ fs, GoodF cs f) : ∀ {row : List Int}, (∀ x ∈ row, InF fs x) → ∀ p, 0 < tknAt fs row p ↔ onPad (pdF fs) p row ≠ []
  | [], _, p => ⟨fun h => absurd (show (0 : Int) < 0 from h) (by decide), fun h => absurd rfl h⟩
  | x :: row, h, p => by
    have ih := tkn_pos hG (row := row) (fun u hu => h u (List.mem_cons_of_mem _ hu)) p
    have nn := tkn_nn hG (row := row) (fun u hu => h u (List.mem_cons_of_mem _ hu)) p
    obtain ⟨F0, _, hGF, eF, epd⟩ := pdF_in hG (h x List.mem_cons_self)
    have e1 : tknAt fs (x :: row) p = depAt F0 p + tknAt fs row p := by
      unfold tknAt
      rw [List.map_cons, List.sum_cons, eF]
    rw [e1]
    by_cases hp : p ∈ pdF fs x
    · have := dep_pos hGF.all (p := p) (by rw [← epd]; exact hp)
      rw [show onPad (pdF fs) p (x :: row) = x :: onPad (pdF fs) p row from List.filter_cons_of_pos (decide_eq_true hp)]
      exact ⟨fun _ => (fun z => nomatch z), fun _ => by omega⟩
    · rw [show onPad (pdF fs) p (x :: row) = onPad (pdF fs) p row from List.filter_cons_of_neg (by simpa using hp), depAt_out (by rw [← epd]; exact hp), Int.zero_add]
      exact ih
/-- the least pad that both have -/
def bothB (fs : List (List Tri)) (L R : List Int) (p : Nat) : Bool := decide (0 < tknAt fs L (p : Int)) && decide (0 < tknAt fs R (p : Int))
def clash (fs : List (List Tri)) (n : Nat) (L R : List Int) : Option Nat := (List.range n).find? (bothB fs L R)
abbrev sHJoin : Stmt := inClass (topS 53) 14
abbrev nHJoin : List Str := ["self", "other", "common", "here", "rest", "pad", "some", "others"]
theorem scHJoin : FnScope nHJoin ["self", "other"] (defScope sHJoin) := ⟨rfl, rfl, rfl, by decide +kernel, rfl, by decide +kernel, by decide +kernel⟩
/-- what is left of the two behind their common beginning -/
structure Lefts (fs : List (List Tri)) (r s M L R : List Int) : Prop where
  gcb : Gcb (pdF fs) r s M
  one : ∀ p, onPad (pdF fs) p r = onPad (pdF fs) p M ++ onPad (pdF fs) p L
  two : ∀ p, onPad (pdF fs) p s = onPad (pdF fs) p M ++ onPad (pdF fs) p R
  iM : ∀ z ∈ M, InF fs z
  iL : ∀ z ∈ L, InF fs z
  iR : ∀ z ∈ R, InF fs z
  lR : R.length ≤ s.length
def spHJoin (K : PySem.W.Frag) (C CH CO CX pM : Addr) : Sp := fun vs H Q E => ∃ (T : List (Addr × Str)) (p q bk bk' : Addr) (cs cs' : List Int) (fs fs' : List (List Tri)) (r s : List Int), vs = [.ref p, .ref q] ∧ MT pM T ∧ LamX.Tabs T H ∧ HpOf K C CH H p bk cs fs r ∧ HpOf K C CH H q bk' cs' fs' s ∧ r.length + s.length ≤ 1000 ∧
  (cs = cs' ∧ fs = fs' → (∀ H' x M L R, LamX.ExtN H H' → LamX.Tabs T H' → Lefts fs r s M L R → clash fs cs.length L R = none → HpOf K C CH H' x bk cs fs (r ++ R) → Q (.ref x) H') ∧ ∀ H' M L R (z : Nat), LamX.ExtN H H' → LamX.Tabs T H' → Lefts fs r s M L R → clash fs cs.length L R = some z → refuseN 18 CX [(z : Int)] H' E) ∧ (¬ (cs = cs' ∧ fs = fs') → refuseN 7 CO [] H E)
theorem less_of {cs : List Int} {fs : List (List Tri)} (hG : ∀ f ∈ fs, GoodF cs f) {r M : List Int} (hM : ∀ z ∈ M, InF fs z) (h : ∀ p, onPad (pdF fs) p M <+: onPad (pdF fs) p r) : begB fs cs.length M r = true ∧ ∀ p, onPad (pdF fs) p r = onPad (pdF fs) p M ++ onPad (pdF fs) p (lessM fs r M) := by
  have hb := (begB_iff hG hM).mpr h
  refine ⟨hb, fun p => ?_⟩
  rw [begB_rest hG hM] at hb
  obtain ⟨l, hl⟩ := Option.isSome_iff_exists.mp hb
  rw [less_on hl p]
  exact (rest_some hl).2.2 p
theorem lessM_len (fs : List (List Tri)) (r s : List Int) : (lessM fs r s).length ≤ r.length := by
  have h1 := lacks_len (tiersM fs r).flatten fun x => (tiersM fs s).flatten.count x
  have h2 := tiersM_len fs r
  unfold lessM
  omega
theorem lessM_mem {fs : List (List Tri)} {r s : List Int} {z : Int} (h : z ∈ lessM fs r s) : z ∈ r := tiersM_mem (lacks_mem h)
section
variable {P : Program} {w : World} {K : PySem.W.Frag} {mg : Str → Option Value} {base : Heap}
theorem ok_hjoin {f C CH CO CX pM fMt fLs fTk fPl : Addr} {fd fdMt fdLs fdTk fdPl : FuncData} {k : Nat} (F : Fun K "joined" "Heap.joined" sHJoin f fd) (T : HpTxt K mg CH) (R : exc1 18 "Barred" "pad" CX P w K mg base k) (me : mg "enumerate" = none) (mz : mg "zip" = none)
    (bMt : Binds K fdMt ["self", "other"] []) (mMt : Meth K CH "meet" fMt) (GMt : FnOk P w K mg base (L2.CX P w) (k + 1) fMt fdMt ["self", "other"] (spHMeet K C CH CO pM))
    (bLs : Binds K fdLs ["self", "other"] []) (mLs : Meth K CH "less" fLs) (GLs : FnOk P w K mg base CX0 (k + 1) fLs fdLs ["self", "other"] (spHLessC K C CH))
    (bTk : Binds K fdTk ["self"] []) (mTk : Meth K CH "taken" fTk) (GTk : FnOk P w K mg base CX0 (k + 1) fTk fdTk ["self"] (spHTkn K C CH))
    (bPl : Binds K fdPl ["self", "other"] []) (mPl : Meth K CH "plus" fPl) (GPl : FnOk P w K mg base CX0 (k + 1) fPl fdPl ["self", "other"] (spHPlusC K C CH)) :
    FnOk P w K mg base (L2.CX P w) (k + 2) f fd ["self", "other"] (spHJoin K C CH CO CX pM) := by
  refine F.okX scHJoin (fun vs H Q E h => ?_) (fun cdv A outer s0 H vs Q E hr h => ?_)
  · obtain ⟨_, p, q, bk, bk', cs, cs', fs, fs', r, s, rfl, _⟩ := h
    rfl
  · obtain ⟨Tl, p, q, bk, bk', cs, cs', fs, fs', r, s, rfl, hMT, hT, hP, hQ, hl, q0, q1⟩ := h
    refine ⟨_, pss_cons (ps_set (i := 2) scHJoin.nd rfl (.inl rfl) (pe_meth (pv 0) T.cl mMt GMt hr bMt .nil (passes_call (takes_of rfl rfl rfl rfl) (fun _ _ _ _ h => h)) (pa_cons (pv 1) pa_nil)))
      (pss_cons (ps_set (i := 3) scHJoin.nd rfl (.inl rfl) (pe_meth0 (pe_meth (pv 0) T.cl mLs GLs hr bLs .nil pass0 (pa_cons (pv 2) pa_nil)) T.cl mTk GTk hr bTk .nil pass0))
      (pss_cons (ps_set (i := 4) scHJoin.nd rfl (.inl rfl) (pe_meth (pv 1) T.cl mLs GLs hr bLs .nil pass0 (pa_cons (pv 2) pa_nil)))
      (pss_cons (ps_for (passes_of rfl) rfl (pi_ezT (by rfl) me (by rfl) mz (pa_cons (pv 3) (pa_cons (pe_meth0 (pv 4) T.cl mTk GTk hr bTk .nil pass0) pa_nil))) (pg_tup (by rfl) (pgs_cons (pg_name (i := 5) scHJoin.nd rfl (.inl rfl)) (pgs_cons (pg_tup (by rfl) (pgs_cons (pg_name (i := 6) scHJoin.nd rfl (.inl rfl)) (pgs_cons (pg_name (i := 7) scHJoin.nd rfl (.inl rfl)) pgs_nil))) pgs_nil))) (pss_one (ps_if (PW.pt (pw_and (pt_cmpR op_gt (pv 6) pe_int (nomark _)) (pw_and1 (pt_cmpR op_gt (pv 7) pe_int (nomark _))))) (pss_one (ps_raise rfl (takes_of rfl rfl rfl rfl) (pmk_ref R hr (by rfl) (pa_cons (pv 5) pa_nil)))) pss_nil)))
      (pss_one (ps_ret (pe_meth (pv 0) T.cl mPl GPl hr bPl .nil pass0 (pa_cons (pv 4) pa_nil))))))), ?_⟩
    obtain ⟨dx, t, hp, ht⟩ := id hP.hp
    refine ⟨.ref p, rfl, p, dx, _, rfl, hp, rfl, .ref q, rfl, Tl, p, q, bk, bk', cs, cs', fs, fs', r, s, rfl, hMT, hT, hP, hQ, by omega, by omega, fun e H1 c M e1 hT1 hM hMl PM => ?_, q1⟩
    obtain ⟨rfl, rfl⟩ := e
    obtain ⟨q2, q3⟩ := q0 ⟨rfl, rfl⟩
    have hc := hP.len
    have P1 := hP.ext e1
    have Q1 := hQ.ext e1
    obtain ⟨b1, L1⟩ := less_of hP.good PM.inn hM.one
    obtain ⟨b2, L2'⟩ := less_of hP.good PM.inn hM.two
    have Lf : Lefts fs r s M (lessM fs r M) (lessM fs s M) := ⟨hM, L1, L2', PM.inn, fun z hz => hP.inn z (lessM_mem hz), fun z hz => hQ.inn z (lessM_mem hz), lessM_len fs s M⟩
    have hlr := lessM_len fs r M
    have hls := lessM_len fs s M
    obtain ⟨dxp, tp, hp1, _⟩ := id P1.hp
    refine ⟨.ref p, rfl, p, dxp, _, rfl, hp1, rfl, .ref c, rfl, p, c, bk, bk, cs, fs, r, M, rfl, P1, PM, by omega, by omega, b1, fun H2 x2 s2 nx2 X2 => ?_⟩
    obtain ⟨dx2, t2, hx2, _⟩ := id X2.hp
    refine ⟨x2, dx2, _, rfl, hx2, rfl, x2, bk, cs, fs, _, rfl, X2, by omega, fun H3 tk s3 htk => ?_⟩
    have s23 := s2.trans s3
    have Q3 := Q1.same s23
    obtain ⟨dxq, tq, hq3, _⟩ := id Q3.hp
    refine ⟨.ref q, rfl, q, dxq, _, rfl, hq3, rfl, .ref c, rfl, q, c, bk', bk, cs, fs, s, M, rfl, Q3, PM.same s23, by omega, by omega, b2, fun H4 x4 s4 nx4 X4 => ?_⟩
    obtain ⟨dx4, t4, hx4, _⟩ := id X4.hp
    refine ⟨.ref tk, rfl, .ref x4, rfl, x4, dx4, _, rfl, hx4, rfl, x4, bk', cs, fs, _, rfl, X4, by omega, fun H5 tl s5 htl => ?_⟩
    have s14 := (s23.trans s4).trans s5
    have e5 := e1.trans (LamX.ExtN.of s14)
    have htk5 := Same.tup (s4.trans s5) htk
    have hlen : ∀ w, ((tknM fs cs.length w).map V.int).length = cs.length := fun w => by unfold tknM; rw [List.length_map, List.length_map, List.length_range]
    refine ⟨tk, tl, _, _, rfl, htk5, htl, ?_⟩
    refine for_it (walk_ezT (K := K) (a := tk) (b := tl) (xs := (tknM fs cs.length (lessM fs r M)).map V.int) (ys := (tknM fs cs.length (lessM fs s M)).map V.int) rfl) (fun i σ H' => ∃ (y5 y6 y7 : Option V), σ = [some (.ref p), some (.ref q), some (.ref c), some (.ref tk), some (.ref x4), y5, y6, y7] ∧ Same H5 H' ∧ ∀ j, j < i → bothB fs (lessM fs r M) (lessM fs s M) j = false)
      ⟨none, none, none, rfl, Same.refl H5, fun j hj => absurd hj (Nat.not_lt_zero _)⟩ (fun i σ H' _ ⟨_, _, _, _, sm, _⟩ => ⟨Same.tup sm htk5, Same.tup sm htl⟩) (fun i v σ H' H'' hi hP' hY => ?_) (fun σ H' hP' => ?_)
    · obtain ⟨y5, y6, y7, rfl, sm, low⟩ := hP'
      obtain ⟨T0, U0, x, y, rfl, nU, nT, rfl, hx, hy⟩ := hY
      have hic : i < cs.length := by
        rw [hlen, hlen, Nat.min_self] at hi
        exact hi
      have ex : ∀ w, ((tknM fs cs.length w).map V.int)[i]? = some (.int (tknAt fs w (i : Int))) := fun w => by
        unfold tknM
        rw [List.map_map, List.getElem?_map, List.getElem?_range hic]
        rfl
      rw [ex] at hx hy
      obtain rfl := Option.some.inj hx
      obtain rfl := Option.some.inj hy
      have u1 := same_upd (o := .tup [V.int (tknAt fs (lessM fs r M) (i : Int)), V.int (tknAt fs (lessM fs s M) (i : Int))]) nU
      have u2 := same_upd (o := .tup [V.int (i : Nat), V.ref U0]) nT
      have sm1 := (sm.trans u1).trans u2
      have yes : bothB fs (lessM fs r M) (lessM fs s M) i = true → clash fs cs.length (lessM fs r M) (lessM fs s M) = some i := fun e => by
        unfold clash
        rw [List.find?_range_eq_some]
        exact ⟨e, List.mem_range.mpr hic, fun j hj => by rw [low j hj]; rfl⟩
      refine ⟨T0, _, rfl, SqT.of upd_same, rfl, _, _, rfl, _, _, rfl, U0, _, rfl, SqT.of (u2 _ _ upd_same), rfl, _, _, rfl, _, _, rfl, rfl, rfl, ?_⟩
      have no : bothB fs (lessM fs r M) (lessM fs s M) i = false → ∃ (y5 y6 y7 : Option V), [some (.ref p), some (.ref q), some (.ref c), some (.ref tk), some (.ref x4), some (.int (i : Nat)), some (.int (tknAt fs (lessM fs r M) (i : Int))), some (.int (tknAt fs (lessM fs s M) (i : Int)))] = [some (.ref p), some (.ref q), some (.ref c), some (.ref tk), some (.ref x4), y5, y6, y7] ∧ Same H5 _ ∧ ∀ j, j < i + 1 → bothB fs (lessM fs r M) (lessM fs s M) j = false := fun e => ⟨_, _, _, rfl, sm1, fun j hj => by
        by_cases z : j = i
        · rw [z]
          exact e
        · exact low j (by omega)⟩
      refine ⟨_, rfl, _, _, rfl, rfl, _, rfl, ite2 (fun e => ?_) (fun e => ?_)⟩
      · refine ⟨_, rfl, _, _, rfl, rfl, _, rfl, ite2 (fun e2 => ?_) (fun e2 => ?_)⟩
        · refine ⟨.int (i : Nat), rfl, rfl, (show (1 : Nat) ≤ 1000 by decide), fun dd H6 h1 h2 h3 => ?_⟩
          exact q3 H5 M _ _ i e5 (hT1.ext s14) Lf (yes (by unfold bothB; rw [e, e2]; rfl)) dd H6 (sm1.trans (same_ref h1 h2)) h3
        · exact no (by unfold bothB; rw [show decide (0 < tknAt fs (lessM fs s M) (i : Int)) = false from by simpa using e2, Bool.and_false])
      · exact no (by unfold bothB; rw [show decide (0 < tknAt fs (lessM fs r M) (i : Int)) = false from by simpa using e, Bool.false_and])
    · obtain ⟨y5, y6, y7, rfl, sm, low⟩ := hP'
      rw [hlen, hlen, Nat.min_self] at low
      have s5' := s14.trans sm
      have P5 := P1.same s5'
      have X5 := X4.same (s5.trans sm)
      obtain ⟨dx5, t5, hp5, _⟩ := id P5.hp
      refine ⟨.ref p, rfl, p, dx5, _, rfl, hp5, rfl, .ref x4, rfl, p, x4, bk, bk', cs, fs, r, _, rfl, P5, X5, by omega, fun H6 z s6 nz Z => ?_⟩
      refine q2 H6 z M _ _ (e1.trans (LamX.ExtN.of (s5'.trans s6))) (hT1.ext (s5'.trans s6)) Lf ?_ Z
      unfold clash
      rw [List.find?_eq_none]
      intro j hj
      rw [low j (List.mem_range.mp hj)]
      simp
end
def spHJoinC (K : PySem.W.Frag) (C CH pM : Addr) : Sp := fun vs H Q _ => ∃ (T : List (Addr × Str)) (p q bk bk' : Addr) (cs : List Int) (fs : List (List Tri)) (r s : List Int), vs = [.ref p, .ref q] ∧ MT pM T ∧ LamX.Tabs T H ∧ HpOf K C CH H p bk cs fs r ∧ HpOf K C CH H q bk' cs fs s ∧ r.length + s.length ≤ 1000 ∧
  (∀ M L R, Lefts fs r s M L R → clash fs cs.length L R = none) ∧ ∀ H' x M L R, LamX.ExtN H H' → LamX.Tabs T H' → Lefts fs r s M L R → HpOf K C CH H' x bk cs fs (r ++ R) → Q (.ref x) H'
section
variable {P : Program} {w : World} {K : PySem.W.Frag} {mg : Str → Option Value} {base : Heap}
theorem hjoinC {f C CH CO CX pM : Addr} {fd : FuncData} {k : Nat} (G : FnOk P w K mg base (L2.CX P w) k f fd ["self", "other"] (spHJoin K C CH CO CX pM)) : FnOk P w K mg base CX0 k f fd ["self", "other"] (spHJoinC K C CH pM) := calm G fun vs H Q E h => by
  obtain ⟨T, p, q, bk, bk', cs, fs, r, s, rfl, hM, hT, hP, hQ, hl, q0, q1⟩ := h
  exact ⟨T, p, q, bk, bk', cs, cs, fs, fs, r, s, rfl, hM, hT, hP, hQ, hl, fun _ => ⟨fun H' x M L R e1 e2 e3 _ e5 => q1 H' x M L R e1 e2 e3 e5, fun H' M L R z _ _ e3 e4 => by rw [q0 M L R e3] at e4; cases e4⟩, fun bad => absurd ⟨rfl, rfl⟩ bad⟩
end
/-! ### first_unlike, Heap.parted -/
section
variable {K : PySem.W.Frag} {a b : Addr} {xs ys : List V}
def YEZ (xs ys : List V) (i : Nat) (H : Hp) (v : V) (H' : Hp) : Prop := ∃ T U x y, v = .ref T ∧ H U = none ∧ (upd H U (.tup [x, y])) T = none ∧ H' = upd (upd H U (.tup [x, y])) T (.tup [.int (i : Nat), .ref U]) ∧ xs[i]? = some x ∧ ys[i]? = some y
theorem walk_ez {n : Nat} (hn : n = min xs.length ys.length) : Walk (Itez K a b) n (fun H => SqL K H a xs ∧ SqL K H b ys) (YEZ xs ys) := by
  subst hn
  refine ⟨fun i _ hi q => ?_, fun _ q => ⟨xs, ys, q.1, q.2, by omega⟩, fun i H v H' _ q y => ?_⟩
  · have g1 : i < xs.length := by omega
    have g2 : i < ys.length := by omega
    exact ⟨xs, ys, xs[i], ys[i], q.1, q.2, by simp [g1], by simp [g2]⟩
  · obtain ⟨T, U, x, z, g1, g2, g3, g4, g5, g6⟩ := y
    exact ⟨T, U, x, z, g1, g2, g3, g4, g5 xs q.1, g6 ys q.2⟩
end
/-- the first place at which they are unlike -/
def fu : List Int → List Int → Nat
  | x :: r, y :: s => if x = y then fu r s + 1 else 0
  | _, _ => 0
theorem fu_lt : ∀ (r s : List Int) (j : Nat), j < fu r s → r[j]? = s[j]?
  | [], [], j, h => rfl
  | [], _ :: _, j, h => absurd h (Nat.not_lt_zero _)
  | _ :: _, [], j, h => absurd h (Nat.not_lt_zero _)
  | x :: r, y :: s, j, h => by
    unfold fu at h
    by_cases e : x = y
    · rw [if_pos e] at h
      cases j with
      | zero => rw [e]; rfl
      | succ j =>
        have := fu_lt r s j (by omega)
        simpa using this
    · rw [if_neg e] at h
      omega
theorem fu_ne : ∀ (r s : List Int), r ≠ s → r[fu r s]? ≠ s[fu r s]?
  | [], [], h => absurd rfl h
  | [], y :: s, _ => by simp [fu]
  | x :: r, [], _ => by simp [fu]
  | x :: r, y :: s, h => by
    unfold fu
    by_cases e : x = y
    · rw [if_pos e]
      have := fu_ne r s (fun z => h (by rw [e, z]))
      simpa using this
    · rw [if_neg e]
      intro z
      exact e (by simpa using z)
theorem fu_le : ∀ (r s : List Int), fu r s ≤ min r.length s.length
  | [], _ => Nat.zero_le _
  | _ :: _, [] => Nat.zero_le _
  | x :: r, y :: s => by
    unfold fu
    have := fu_le r s
    by_cases e : x = y
    · rw [if_pos e, List.length_cons, List.length_cons]
      omega
    · rw [if_neg e]
      omega
theorem cutV_one (zs : List V) (k : Nat) : cutV zs (some (k : Int)) (some ((k : Int) + 1)) = (zs.drop k).take 1 := by
  unfold cutV
  rw [show ((k : Int) + 1) = ((k + 1 : Nat) : Int) by omega, HT.sIx_nat, HT.sIx_nat]
  rcases Nat.lt_or_ge k zs.length with h | h
  · rw [Nat.min_eq_left (Nat.le_of_lt h), Nat.min_eq_left h, show k.succ - k = 1 by omega]
  · rw [Nat.min_eq_right h, List.drop_of_length_le h, List.drop_of_length_le (Nat.le_refl _), List.take_nil, List.take_nil]
theorem one_eq (r s : List Int) (k : Nat) : (r.drop k).take 1 = (s.drop k).take 1 ↔ r[k]? = s[k]? := by
  have e : ∀ l : List Int, (l.drop k).take 1 = (match l[k]? with | some x => [x] | none => []) := fun l => by
    rcases Nat.lt_or_ge k l.length with h | h
    · rw [List.drop_eq_getElem_cons h, List.getElem?_eq_getElem h]
      rfl
    · rw [List.drop_of_length_le h, List.getElem?_eq_none h]
      rfl
  rw [e, e]
  cases r[k]? <;> cases s[k]? <;> simp
abbrev sFU : Stmt := topS 58
abbrev nFU : List Str := ["some", "others", "place"]
theorem scFU : FnScope nFU ["some", "others"] (defScope sFU) := ⟨rfl, rfl, rfl, by decide +kernel, rfl, by decide +kernel, by decide +kernel⟩
def spFU (K : PySem.W.Frag) : Sp := fun vs H Q _ => ∃ (a b : Addr) (r s : List Int), vs = [.ref a, .ref b] ∧ SqL K H a (r.map V.int) ∧ SqL K H b (s.map V.int) ∧ r ≠ s ∧ ∀ H', Same H H' → Q (.int (fu r s : Nat)) H'
section
variable {P : Program} {w : World} {K : PySem.W.Frag} {mg : Str → Option Value} {base : Heap}
theorem ok_fu {f : Addr} {fd : FuncData} {k : Nat} (F : Fun K "first_unlike" "first_unlike" sFU f fd) : FnOk P w K mg base CX0 (k + 1) f fd ["some", "others"] (spFU K) := by
  refine F.ok scFU (fun vs H Q E h => ?_) (fun cdv A outer s0 H vs Q E hr h => ?_)
  · obtain ⟨a, b, r, s, rfl, _⟩ := h
    rfl
  · obtain ⟨a, b, r, s, rfl, ha, hb, ne, q⟩ := h
    refine ⟨_, pss_cons (ps_set (i := 2) scFU.nd rfl (.inl rfl) pe_int)
      (pss_cons (ps_while PassesOwn.never (pt_cmpR (op_eqD hr.units) (pe_slice sl_list (pv 0) (po_some (pv 2)) (po_some (pe_op op_add (pv 2) pe_int))) (pe_slice sl_list (pv 1) (po_some (pv 2)) (po_some (pe_op op_add (pv 2) pe_int))) (nomark _)) (pss_one (ps_aug (i := 2) scFU.nd rfl (.inl rfl) pe_int ip_add)))
      (pss_one (ps_ret (pv 2)))), ?_⟩
    refine ⟨fun m σ H' => ∃ n : Nat, σ = [some (.ref a), some (.ref b), some (.int (n : Nat))] ∧ Same H H' ∧ n ≤ fu r s ∧ m = fu r s - n, ⟨fu r s, 0, rfl, Same.refl H, Nat.zero_le _, rfl⟩, ?_⟩
    rintro m σ H' ⟨n, rfl, sm, hn, rfl⟩
    refine ⟨.ref a, rfl, .int (n : Nat), rfl, n, rfl, .int (n : Nat), rfl, n, 1, rfl, rfl, (n : Int) + 1, rfl, a, _, rfl, sm.seq ha, fun p np => ?_⟩
    rw [cutV_one, ← List.map_drop, ← List.map_take]
    have u1 := same_upd (o := .lst (((r.drop n).take 1).map V.int)) np
    have sm1 := sm.trans u1
    refine ⟨.ref b, rfl, .int (n : Nat), rfl, n, rfl, .int (n : Nat), rfl, n, 1, rfl, rfl, (n : Int) + 1, rfl, b, _, rfl, sm1.seq hb, fun p2 np2 => ?_⟩
    rw [cutV_one, ← List.map_drop, ← List.map_take]
    have u2 := same_upd (o := .lst (((s.drop n).take 1).map V.int)) np2
    refine ⟨_, _, dpL (SqL.of (u2 _ _ upd_same)), dpL (SqL.of upd_same), shL _, shL _, ?_⟩
    rw [eqvL]
    refine ⟨_, rfl, ite2 (fun e => ?_) (fun e => ?_)⟩
    · have e := (one_eq r s n).mp (of_decide_eq_true e)
      have lt : n < fu r s := by
        rcases Nat.lt_or_ge n (fu r s) with z | z
        · exact z
        · have z : n = fu r s := by omega
          rw [z] at e
          exact absurd e (fu_ne r s ne)
      refine ⟨fun σ' H'' => σ' = [some (.ref a), some (.ref b), some (.int ((n + 1 : Nat) : Int))] ∧ Same H H'', ?_, .int (n : Nat), rfl, _, _, rfl, rfl, rfl, sm1.trans u2⟩
      rintro σ' H'' ⟨rfl, sm'⟩
      exact ⟨fu r s - (n + 1), by omega, n + 1, rfl, sm', by omega, rfl⟩
    · have en : n = fu r s := by
        rcases Nat.lt_or_ge n (fu r s) with z | z
        · exact absurd (decide_eq_true ((one_eq r s n).mpr (fu_lt r s n z))) e
        · omega
      refine ⟨.int (n : Nat), rfl, ?_⟩
      have fin := q _ (sm1.trans u2)
      rw [← en] at fin
      exact fin
end
theorem cols_atP {fs : List (List Tri)} {n i : Nat} {r : List Int} (h : i < n) : (colsM fs n r)[i]? = some (onPad (pdF fs) (i : Int) r) := by
  unfold colsM
  rw [List.getElem?_map, List.getElem?_range h]
  rfl
/-- where two heaps part: the pad and the place, over n pads -/
def partN (fs : List (List Tri)) (n : Nat) (r s : List Int) : Option (Nat × Nat) :=
  (((List.range n).find? fun (p : Nat) => !decide (onPad (pdF fs) (p : Int) r = onPad (pdF fs) (p : Int) s))).map fun p => (p, fu (onPad (pdF fs) (p : Int) r) (onPad (pdF fs) (p : Int) s))
/-- the value that tells it -/
def PartV (K : PySem.W.Frag) (H : Hp) (v : V) : Option (Nat × Nat) → Prop
  | none => v = .non
  | some p => ∃ t, v = .ref t ∧ SqT K H t [.int (p.1 : Nat), .int (p.2 : Nat)]
abbrev sHPtd : Stmt := inClass (topS 53) 15
abbrev nHPtd : List Str := ["self", "other", "pad", "some", "others"]
theorem scHPtd : FnScope nHPtd ["self", "other"] (defScope sHPtd) := ⟨rfl, rfl, rfl, by decide +kernel, rfl, by decide +kernel, by decide +kernel⟩
def spHPtd (K : PySem.W.Frag) (C CH CO : Addr) : Sp := fun vs H Q E => ∃ (p q bk bk' : Addr) (cs cs' : List Int) (fs fs' : List (List Tri)) (r s : List Int), vs = [.ref p, .ref q] ∧ HpOf K C CH H p bk cs fs r ∧ HpOf K C CH H q bk' cs' fs' s ∧ r.length ≤ 1000 ∧ s.length ≤ 1000 ∧
  (cs = cs' ∧ fs = fs' → ∀ H' v, Same H H' → PartV K H' v (partN fs cs.length r s) → Q v H') ∧ (¬ (cs = cs' ∧ fs = fs') → refuseN 7 CO [] H E)
section
variable {P : Program} {w : World} {K : PySem.W.Frag} {mg : Str → Option Value} {base : Heap}
theorem ok_hptd {f C CH CO fC fCo fU : Addr} {fd fdC fdCo fdU : FuncData} {k : Nat} (F : Fun K "parted" "Heap.parted" sHPtd f fd) (T : HpTxt K mg CH) (me : mg "enumerate" = none) (mz : mg "zip" = none)
    (bC : Binds K fdC ["self", "other"] []) (mC : Meth K CH "check_book" fC) (GC : FnOk P w K mg base (L2.CX P w) (k + 1) fC fdC ["self", "other"] (spHChk K C CH CO))
    (bCo : Binds K fdCo ["self"] []) (mCo : Meth K CH "columns" fCo) (GCo : FnOk P w K mg base CX0 (k + 1) fCo fdCo ["self"] (spHCols K C CH))
    (FU : Fun K "first_unlike" "first_unlike" sFU fU fdU) (bU : Binds K fdU ["some", "others"] []) (gU : mg "first_unlike" = some (.ref fU)) (GU : FnOk P w K mg base CX0 (k + 1) fU fdU ["some", "others"] (spFU K)) :
    FnOk P w K mg base (L2.CX P w) (k + 2) f fd ["self", "other"] (spHPtd K C CH CO) := by
  refine F.okX scHPtd (fun vs H Q E h => ?_) (fun cdv A outer s0 H vs Q E hr h => ?_)
  · obtain ⟨p, q, bk, bk', cs, cs', fs, fs', r, s, rfl, _⟩ := h
    rfl
  · obtain ⟨p, q, bk, bk', cs, cs', fs, fs', r, s, rfl, hP, hQ, hrl, hsl, q0, q1⟩ := h
    refine ⟨_, pss_cons (ps_expr (pe_meth (pv 0) T.cl mC GC hr bC .nil (passes_call (takes_of rfl rfl rfl rfl) (fun _ _ _ _ h => h)) (pa_cons (pv 1) pa_nil)))
      (pss_cons (ps_for (passes_of rfl) rfl (pi_ez (by rfl) me (by rfl) mz (pa_cons (pe_meth0 (pv 0) T.cl mCo GCo hr bCo .nil pass0) (pa_cons (pe_meth0 (pv 1) T.cl mCo GCo hr bCo .nil pass0) pa_nil))) (pg_tup (by rfl) (pgs_cons (pg_name (i := 2) scHPtd.nd rfl (.inl rfl)) (pgs_cons (pg_tup (by rfl) (pgs_cons (pg_name (i := 3) scHPtd.nd rfl (.inl rfl)) (pgs_cons (pg_name (i := 4) scHPtd.nd rfl (.inl rfl)) pgs_nil))) pgs_nil))) (pss_one (ps_if (pt_cmpR (op_neD hr.units) (pv 3) (pv 4) (nomark _)) (pss_one (ps_ret (pe_tup (pa_cons (pv 2) (pa_cons (pe_call GU hr (by rfl) gU FU.kp bU .nil pass0 (pa_cons (pv 3) (pa_cons (pv 4) pa_nil))) pa_nil))))) pss_nil)))
      (pss_one (ps_ret pe_non))), ?_⟩
    obtain ⟨dx, t, hp, ht⟩ := id hP.hp
    obtain ⟨dx', t', hp', ht'⟩ := id hQ.hp
    have lr := tiersM_len fs r
    have ls := tiersM_len fs' s
    refine ⟨.ref p, rfl, p, dx, _, rfl, hp, rfl, .ref q, rfl, p, q, bk, bk', cs, cs', fs, fs', _, _, rfl, hP.hp, hQ.hp, hP.bk, hQ.bk, fun e => ?_, q1⟩
    obtain ⟨rfl, rfl⟩ := e
    have hc := hP.len
    refine ⟨.ref p, rfl, p, dx, _, rfl, hp, rfl, p, bk, cs, fs, _, rfl, hP.hp, hP.bk, hP.good, hc, (fun x hx => hP.inn x (tiersM_mem hx)), by omega, fun H1 l1 x1 s1 n1 h1 hz1 => ?_⟩
    refine ⟨.ref q, rfl, q, dx', _, rfl, s1 _ _ hp', rfl, q, bk', cs, fs, _, rfl, hQ.hp.same s1, hQ.bk.same s1, hQ.good, hc, (fun x hx => hQ.inn x (tiersM_mem hx)), by omega, fun H2 l2 x2 s2 n2 h2 hz2 => ?_⟩
    have hx1 := hz1.len
    have hx2 := hz2.len
    have ecl : ∀ r, (colsM fs cs.length r).length = cs.length := fun r => by unfold colsM; rw [List.length_map, List.length_range]
    rw [ecl] at hx1 hx2
    refine ⟨l1, l2, x1, x2, rfl, SqL.of (s2 _ _ h1), SqL.of h2, ?_⟩
    refine for_it (walk_ez (K := K) (a := l1) (b := l2) (xs := x1) (ys := x2) rfl) (fun i σ H' => ∃ (y2 y3 y4 : Option V), σ = [some (.ref p), some (.ref q), y2, y3, y4] ∧ Same H2 H' ∧ ∀ j, j < i → onPad (pdF fs) ((j : Nat) : Int) r = onPad (pdF fs) ((j : Nat) : Int) s)
      ⟨none, none, none, rfl, Same.refl H2, fun j hj => absurd hj (Nat.not_lt_zero _)⟩ (fun i σ H' _ ⟨_, _, _, _, sm, _⟩ => ⟨SqL.of (sm _ _ (s2 _ _ h1)), SqL.of (sm _ _ h2)⟩) (fun i v σ H' H'' hi hP' hY => ?_) (fun σ H' hP' => ?_)
    · obtain ⟨y2, y3, y4, rfl, sm, low⟩ := hP'
      obtain ⟨T0, U0, x, y, rfl, nU, nT, rfl, hx, hy⟩ := hY
      have hic : i < cs.length := by
        rw [hx1, hx2] at hi
        omega
      obtain ⟨tx, ex, a, rfl, _, ha⟩ := hz1.get hx
      obtain ⟨ty, ey, b, rfl, _, hb⟩ := hz2.get hy
      rw [cols_atP hic, tiersM_on] at ex ey
      obtain rfl := Option.some.inj ex
      obtain rfl := Option.some.inj ey
      have u1 := same_upd (o := .tup [V.ref a, V.ref b]) nU
      have u2 := same_upd (o := .tup [V.int (i : Nat), V.ref U0]) nT
      have sm1 := (sm.trans u1).trans u2
      have ha1 := sm1 _ _ (s2 _ _ ha)
      have hb1 := sm1 _ _ hb
      refine ⟨T0, _, rfl, SqT.of upd_same, rfl, _, _, rfl, _, _, rfl, U0, _, rfl, SqT.of (u2 _ _ upd_same), rfl, _, _, rfl, _, _, rfl, rfl, rfl, ?_⟩
      refine ⟨.ref a, rfl, .ref b, rfl, _, _, dpL (SqL.of ha1), dpL (SqL.of hb1), shL _, shL _, ?_⟩
      rw [eqvL]
      refine ⟨_, rfl, ite2 (fun e => ?_) (fun e => ?_)⟩
      · have ne : onPad (pdF fs) (i : Int) r ≠ onPad (pdF fs) (i : Int) s := fun z => by
          rw [decide_eq_true z] at e
          cases e
        refine ⟨.int (i : Nat), rfl, .ref a, rfl, .ref b, rfl, a, b, _, _, rfl, SqL.of ha1, SqL.of hb1, ne, fun H5 s5 => ⟨(show (2 : Nat) ≤ sizeLine by decide), fun l nl => ?_⟩⟩
        have u5 := same_upd (o := .tup [V.int (i : Nat), V.int (fu (onPad (pdF fs) (i : Int) r) (onPad (pdF fs) (i : Int) s) : Nat)]) nl
        refine q0 ⟨rfl, rfl⟩ _ _ (((s1.trans s2).trans sm1).trans (s5.trans u5)) ?_
        have ef : (List.range cs.length).find? (fun (p : Nat) => !decide (onPad (pdF fs) (p : Int) r = onPad (pdF fs) (p : Int) s)) = some i := by
          rw [List.find?_range_eq_some]
          refine ⟨by rw [decide_eq_false ne]; rfl, List.mem_range.mpr hic, fun j hj => ?_⟩
          rw [decide_eq_true (low j hj)]
          rfl
        unfold partN
        rw [ef]
        exact ⟨l, rfl, SqT.of upd_same⟩
      · refine ⟨_, _, _, rfl, sm1, fun j hj => ?_⟩
        by_cases z : j = i
        · subst z
          exact Classical.byContradiction fun ne => e (by rw [decide_eq_false ne]; rfl)
        · exact low j (by omega)
    · obtain ⟨y2, y3, y4, rfl, sm, low⟩ := hP'
      rw [hx1, hx2, Nat.min_self] at low
      refine q0 ⟨rfl, rfl⟩ _ _ ((s1.trans s2).trans sm) ?_
      have ef : (List.range cs.length).find? (fun (p : Nat) => !decide (onPad (pdF fs) (p : Int) r = onPad (pdF fs) (p : Int) s)) = none := by
        rw [List.find?_eq_none]
        intro j hj
        rw [decide_eq_true (low j (List.mem_range.mp hj))]
        simp
      unfold partN
      rw [ef]
      rfl
end
def spHPtdC (K : PySem.W.Frag) (C CH : Addr) : Sp := fun vs H Q _ => ∃ (p q bk bk' : Addr) (cs : List Int) (fs : List (List Tri)) (r s : List Int), vs = [.ref p, .ref q] ∧ HpOf K C CH H p bk cs fs r ∧ HpOf K C CH H q bk' cs fs s ∧ r.length ≤ 1000 ∧ s.length ≤ 1000 ∧ ∀ H' v, Same H H' → PartV K H' v (partN fs cs.length r s) → Q v H'
section
variable {P : Program} {w : World} {K : PySem.W.Frag} {mg : Str → Option Value} {base : Heap}
theorem hptdC {f C CH CO : Addr} {fd : FuncData} {k : Nat} (G : FnOk P w K mg base (L2.CX P w) k f fd ["self", "other"] (spHPtd K C CH CO)) : FnOk P w K mg base CX0 k f fd ["self", "other"] (spHPtdC K C CH) := calm G fun vs H Q E h => by
  obtain ⟨p, q, bk, bk', cs, fs, r, s, rfl, hP, hQ, h1, h2, q0⟩ := h
  exact ⟨p, q, bk, bk', cs, cs, fs, fs, r, s, rfl, hP, hQ, h1, h2, fun _ => q0, fun bad => absurd ⟨rfl, rfl⟩ bad⟩
end
/-! ### the law's rows: _law_row, _law_pads, _law_meet, _law_on -/
abbrev sLRow : Stmt := topS 68
abbrev nLRow : List Str := ["_law_bag_here", "_law_shapes_here", "_law_most", "_law_k"]
theorem scLRow : FnScope nLRow ["_law_bag_here", "_law_shapes_here", "_law_most"] (defScope sLRow) := ⟨rfl, rfl, rfl, by decide +kernel, rfl, by decide +kernel, by decide +kernel⟩
def spLRow : Sp := fun vs H Q _ => ∃ (b c e : Addr) (xs : List V) (most : Nat), vs = [.ref b, .ref e, .int (most : Nat)] ∧ Bag H b c ∧ H e = some (.lst xs) ∧ e ≠ b ∧ 1 ≤ xs.length ∧ xs.length ≤ 1000 ∧ most ≤ 500 ∧
  ∀ (H' : Hp) (D : Addr) (row : List Int), Off b H H' → Bag H' b c → H D = none → D ≠ b → H' D = some (.lst (row.map V.int)) → row.length ≤ most → (∀ x ∈ row, (0 : Int) ≤ x ∧ x < (xs.length : Nat)) → Q (.ref D) H'
theorem off_free {b D : Addr} {H H' : Hp} (off : Off b H H') (nb : D ≠ b) (nD : H' D = none) : H D = none := by
  cases e : H D with
  | none => rfl
  | some o =>
    rw [off D o nb e] at nD
    cases nD
section
variable {P : Program} {w : World} {K : PySem.W.Frag} {mg : Str → Option Value} {base : Heap}
theorem ok_lrow {f fP : Addr} {fd fdP : FuncData} {k : Nat} (F : Fun K "_law_row" "_law_row" sLRow f fd) (mr : mg "range" = none) (ml : mg "len" = none)
    (FP : Fun K "_law_pull" "_law_pull" sPull fP fdP) (bP : Binds K fdP ["_law_bag_here", "_law_size"] []) (gP : mg "_law_pull" = some (.ref fP)) (GP : FnOk P w K mg base CX0 k fP fdP ["_law_bag_here", "_law_size"] spPull) :
    FnOk P w K mg base CX0 (k + 1) f fd ["_law_bag_here", "_law_shapes_here", "_law_most"] spLRow := by
  refine F.ok scLRow (fun vs H Q E h => ?_) (fun cdv A outer s H vs Q E hr h => ?_)
  · obtain ⟨b, c, e, xs, most, rfl, _⟩ := h
    rfl
  · obtain ⟨b, c, e, xs, most, rfl, hB, he, heb, h1, h2, h3, q⟩ := h
    refine ⟨_, pss_one (ps_ret (pe_lc (own := [("_law_k", 3)]) (g := gName 3) (tt := tYes) rfl scLRow.nd (pi_range1 (by rfl) mr (pa_cons (pe_call GP hr (by rfl) gP FP.kp bP .nil pass0 (pa_cons (pv 0) (pa_cons (pe_op op_add (pv 2) pe_int) pa_nil))) pa_nil))
      (blkOk_by (own := [("_law_k", 3)]) (N := nLRow) (sc := defScope sLRow) (by decide +kernel)) (fun _ _ _ _ _ => pg_name (i := 3) scLRow.nd rfl (Or.inl rfl)) (fun _ _ _ _ _ => pts_nil)
      (fun _ _ _ _ _ => pe_call GP hr (by rfl) gP FP.kp bP .nil pass0 (pa_cons (pv 0) (pa_cons (pe_callB (r := rLenQ K) call_lenQ (by rfl) ml PySem.boot_len (pa_cons (pv 1) pa_nil)) pa_nil))))), ?_⟩
    refine ⟨.ref b, rfl, .int (most : Nat), rfl, _, _, rfl, rfl, b, c, _, rfl, hB, by omega, ?_, fun H2 r off2 hB2 r0 r1 => ?_⟩
    · have : ((most : Int) + 1).natAbs ≤ 1000 := by omega
      exact Nat.lt_of_le_of_lt this (by decide)
    obtain ⟨n, rfl⟩ := Int.eq_ofNat_of_zero_le r0
    refine ⟨(n : Int), rfl, by omega, by omega, fun D nD => ?_⟩
    have hne := hB2.ne nD
    have hDH := off_free off2 hne.1 nD
    refine lc_range (lo := 0) (n := (n : Int).toNat) (fun i H' => Bag H' b c ∧ Off b H H' ∧ ∃ row : List Int, row.length = i ∧ H' D = some (.lst (row.map V.int)) ∧ ∀ x ∈ row, (0 : Int) ≤ x ∧ x < (xs.length : Nat)) ⟨hB2.same (same_upd nD), off2.trans (Off.same (same_upd nD)), [], rfl, upd_same, fun x hx => by cases hx⟩ (fun i H' hi hP => ?_) (fun H' hP => ?_)
    · obtain ⟨hB4, off4, row, hx, hD, hc⟩ := hP
      refine ⟨rfl, yesT ⟨.ref b, rfl, .ref e, rfl, e, _, rfl, .inl (SqL.of (off4 _ _ heb he)), b, c, _, rfl, hB4, by omega, ?_, fun H5 v off5 hB5 v0 v1 => ?_⟩⟩
      · rw [Int.natAbs_natCast]
        exact Nat.lt_of_le_of_lt h2 (by decide)
      refine ⟨_, off5 _ _ hne.1 hD, ?_, hB5.upd hne, (off4.trans off5).new hDH, row ++ [v], ?_, ?_, ?_⟩
      · rw [List.length_map]
        exact small1000 (by omega)
      · rw [List.length_append, hx]
        rfl
      · rw [upd_same, List.map_append]
        rfl
      · intro y hy
        rcases List.mem_append.mp hy with hy | hy
        · exact hc y hy
        · rw [List.mem_singleton.mp hy]
          exact ⟨v0, v1⟩
    · obtain ⟨hB4, off4, row, hx, hD, hc⟩ := hP
      exact q H' D row off4 hB4 hDH hne.1 hD (by omega) hc
end
abbrev sLPads : Stmt := topS 71
abbrev nLPads : List Str := ["_law_shape_here", "_law_pad", "_law_note", "_law_depth"]
theorem scLPads : FnScope nLPads ["_law_shape_here"] (defScope sLPads) := ⟨rfl, rfl, rfl, by decide +kernel, rfl, by decide +kernel, by decide +kernel⟩
abbrev sLMeet : Stmt := topS 72
abbrev nLMeet : List Str := ["_law_one", "_law_other", "_law_pad"]
theorem scLMeet : FnScope nLMeet ["_law_one", "_law_other"] (defScope sLMeet) := ⟨rfl, rfl, rfl, by decide +kernel, rfl, by decide +kernel, by decide +kernel⟩
def spLMeet (K : PySem.W.Frag) : Sp := fun vs H Q _ => ∃ (v u : V) (f g : List Tri), vs = [v, u] ∧ FigT K H v f ∧ FigT K H u g ∧ f.length ≤ 100 ∧ g.length ≤ 100 ∧ ∀ H', Same H H' → Q (.bl ((g.map (·.1)).any fun p => decide (p ∈ f.map (·.1)))) H'
section
variable {P : Program} {w : World} {K : PySem.W.Frag} {mg : Str → Option Value} {base : Heap}
theorem ok_lpads {f : Addr} {fd : FuncData} {k : Nat} (F : Fun K "_law_pads" "_law_pads" sLPads f fd) : FnOk P w K mg base CX0 (k + 1) f fd ["_law_shape_here"] (spPads K) := by
  refine F.ok scLPads (fun vs H Q E h => ?_) (fun cdv A outer s H vs Q E hr h => ?_)
  · obtain ⟨v, f, rfl, _⟩ := h
    rfl
  · obtain ⟨v, f, rfl, hV, hfl, q⟩ := h
    obtain ⟨a, xs, rfl, ha, hxs⟩ := hV
    refine ⟨_, pss_one (ps_ret (pe_lc (own := [("_law_pad", 1), ("_law_note", 2), ("_law_depth", 3)]) (g := g3 K 1 2 3) (tt := tYes) rfl scLPads.nd (pi_tup (pv 0))
        (blkOk_by (own := [("_law_pad", 1), ("_law_note", 2), ("_law_depth", 3)]) (N := nLPads) (sc := defScope sLPads) (by decide +kernel))
        (fun _ _ _ _ _ => pg_tup rfl (pgs_cons (pg_name (i := 1) scLPads.nd rfl (.inl rfl)) (pgs_cons (pg_name (i := 2) scLPads.nd rfl (.inl rfl)) (pgs_cons (pg_name (i := 3) scLPads.nd rfl (.inl rfl)) pgs_nil)))) (fun _ _ _ _ _ => pts_nil)
        (fun _ _ _ _ _ => pv 1))), ?_⟩
    refine ⟨.ref a, rfl, a, rfl, ⟨_, ha⟩, fun D nD => ?_⟩
    refine lc_tup (K := K) (a := a) (xs := xs) (fun i H' => Same H H' ∧ H' D = some (.lst (((f.take i).map (·.1)).map V.int))) ⟨same_upd nD, upd_same⟩ (fun i H' _ hP => Same.tup hP.1 ha) (fun i x H' hx hP => ?_) (fun H1 hP => ?_)
    · obtain ⟨sm, hD⟩ := hP
      obtain ⟨t, ht, tp, rfl, htp⟩ := hxs.get hx
      refine ⟨tp, triV t, rfl, Same.tup sm htp, rfl, _, _, rfl, _, _, rfl, _, _, rfl, rfl, rfl, yesT ⟨_, rfl, _, hD, ?_, Same.offUpd sm nD, ?_⟩⟩
      · rw [List.length_map, List.length_map, List.length_take]
        exact small1000 (by omega)
      · rw [upd_same, take_snoc ht, List.map_append, List.map_append]
        rfl
    · obtain ⟨sm, hD⟩ := hP
      rw [hxs.len, List.take_length] at hD
      exact q H1 D sm nD hD
theorem ok_lmeet {f fP : Addr} {fd fdP : FuncData} {k : Nat} (F : Fun K "_law_meet" "_law_meet" sLMeet f fd) (ma : mg "any" = none)
    (FP : Fun K "_law_pads" "_law_pads" sLPads fP fdP) (bP : Binds K fdP ["_law_shape_here"] []) (gP : mg "_law_pads" = some (.ref fP)) (GP : FnOk P w K mg base CX0 k fP fdP ["_law_shape_here"] (spPads K)) :
    FnOk P w K mg base CX0 (k + 1) f fd ["_law_one", "_law_other"] (spLMeet K) := by
  refine F.ok scLMeet (fun vs H Q E h => ?_) (fun cdv A outer s H vs Q E hr h => ?_)
  · obtain ⟨v, u, f, g, rfl, _⟩ := h
    rfl
  · obtain ⟨v, u, f, g, rfl, hV, hU, hfl, hgl, q⟩ := h
    refine ⟨_, pss_one (ps_ret (pe_callB (cr_any rfl) (by rfl) ma (by decide +kernel) (pa_cons (pe_lc (own := [("_law_pad", 2)]) (g := gName 2) (tt := tYes) rfl scLMeet.nd (pi_list (pe_call GP hr (by rfl) gP FP.kp bP .nil pass0 (pa_cons (pv 1) pa_nil)))
        (blkOk_by (own := [("_law_pad", 2)]) (N := nLMeet) (sc := defScope sLMeet) (by decide +kernel)) (fun _ _ _ _ _ => pg_name (i := 2) scLMeet.nd rfl (.inl rfl)) (fun _ _ _ _ _ => pts_nil)
        (fun _ _ _ _ _ => pe_cmpR (r := rIn K false) op_in_seq (pv 2) (pe_call GP hr (by rfl) gP FP.kp bP .nil pass0 (pa_cons (pv 0) pa_nil)) (by rfl))) pa_nil))), ?_⟩
    refine ⟨u, rfl, u, g, rfl, hU, hgl, fun H1 p1 s1 n1 hp1 => ?_⟩
    refine ⟨p1, rfl, ⟨_, SqL.of hp1⟩, fun D nD => ?_⟩
    refine lc_list (K := K) (a := p1) (xs := (g.map (·.1)).map V.int) (fun i H' => Same H1 H' ∧ H' D = some (.lst ((((g.map (·.1)).take i).map fun p => decide (p ∈ f.map (·.1))).map V.bl))) ⟨same_upd nD, upd_same⟩ (fun i H' _ hP => hP.1.seq (SqL.of hp1)) (fun i x H' hx hP => ?_) (fun H2 hP => ?_)
    · obtain ⟨sm, hD⟩ := hP
      rw [List.getElem?_map] at hx
      cases hp : (g.map (·.1))[i]? with
      | none => rw [hp] at hx; cases hx
      | some p =>
        rw [hp] at hx
        obtain rfl := Option.some.inj hx
        refine ⟨rfl, yesT ⟨.int p, rfl, v, rfl, v, f, rfl, hV.ts (TS.of (s1.trans sm)), hfl, fun H3 p3 s3 n3 hp3 => ?_⟩⟩
        refine ⟨p3, _, rfl, .inl (SqL.of hp3), rfl, flat_ints _, _, s3 _ _ hD, ?_, Same.offUpd (sm.trans s3) nD, ?_⟩
        · rw [List.length_map, List.length_map, List.length_take, List.length_map]
          exact small1000 (by omega)
        · rw [upd_same, take_snoc hp, List.map_append, List.map_append]
          show some (HO.lst (_ ++ [V.bl (inV (V.int p) ((f.map (·.1)).map V.int))])) = _
          rw [inV_mem]
          rfl
    · obtain ⟨sm, hD⟩ := hP
      rw [List.length_map, List.take_length] at hD
      refine ⟨D, _, rfl, SqL.of hD, ?_⟩
      have := q _ (s1.trans sm)
      rw [List.any_map]
      exact this
end
theorem fig_at {K : PySem.W.Frag} {H : Hp} {xs : List V} {fs : List (List Tri)} {x : Int} (h : All2 (FigT K H) xs fs) (hl : ∀ f ∈ fs, f.length ≤ 100) (hx : InF fs x) : ∃ (n : Nat) (v : V) (f : List Tri), x = (n : Int) ∧ n < fs.length ∧ xs[n]? = some v ∧ FigT K H v f ∧ f.length ≤ 100 ∧ pdF fs x = f.map (·.1) := by
  obtain ⟨n, rfl⟩ := Int.eq_ofNat_of_zero_le hx.1
  have hn : n < fs.length := by have := hx.2; omega
  obtain ⟨v, hv, hf⟩ := h.at (List.getElem?_eq_getElem hn)
  refine ⟨n, v, fs[n], rfl, hn, hv, hf, hl _ (List.getElem_mem hn), ?_⟩
  unfold pdF
  rw [Int.toNat_natCast, List.getD_eq_getElem?_getD, List.getElem?_eq_getElem hn]
  rfl
/-! ### _law_layers -/
theorem lay_fst (pd : Int → List Int) (r : List Int) : (lay pd r).map (·.1) = r.map pd := by
  refine snocInd (M := fun r => (lay pd r).map (·.1) = r.map pd) rfl (fun r x ih => ?_) r
  rw [lay_snoc, List.map_append, ih, List.map_append]
  rfl
theorem lay_get {pd : Int → List Int} {r : List Int} {k : Nat} {x : Int} (h : r[k]? = some x) : ∃ n, (lay pd r)[k]? = some (pd x, n) := by
  have h1 : ((lay pd r).map (·.1))[k]? = some (pd x) := by
    rw [lay_fst, List.getElem?_map, h]
    rfl
  rw [List.getElem?_map] at h1
  cases e : (lay pd r)[k]? with
  | none => rw [e] at h1; cases h1
  | some z =>
    rw [e] at h1
    obtain ⟨z1, z2⟩ := z
    have : z1 = pd x := Option.some.inj h1
    subst this
    exact ⟨z2, rfl⟩
theorem any_comm (a b : List Int) : (b.any fun p => decide (p ∈ a)) = (a.any fun p => decide (p ∈ b)) := by
  rw [Bool.eq_iff_iff, List.any_eq_true, List.any_eq_true]
  constructor
  · rintro ⟨p, h1, h2⟩
    exact ⟨p, of_decide_eq_true h2, decide_eq_true h1⟩
  · rintro ⟨p, h1, h2⟩
    exact ⟨p, of_decide_eq_true h2, decide_eq_true h1⟩
/-- the levels -/
def levs (d : Lain) : List Int := d.map fun e => ((e.2 : Nat) : Int)
def meets (d : Lain) (ps : List Int) : Lain := d.filter fun e => e.1.any fun p => decide (p ∈ ps)
theorem meets_snoc {d : Lain} {ps : List Int} {k : Nat} {e : List Int × Nat} (h : d[k]? = some e) : levs (meets (d.take (k + 1)) ps) = levs (meets (d.take k) ps) ++ if (e.1.any fun p => decide (p ∈ ps)) = true then [((e.2 : Nat) : Int)] else [] := by
  rw [take_snoc h]
  unfold meets levs
  rw [List.filter_append, List.map_append]
  congr 1
  by_cases z : (e.1.any fun p => decide (p ∈ ps)) = true
  · rw [if_pos z, List.filter_cons_of_pos (p := fun e : List Int × Nat => e.1.any fun p => decide (p ∈ ps)) z]
    rfl
  · rw [if_neg z, List.filter_cons_of_neg (p := fun e : List Int × Nat => e.1.any fun p => decide (p ∈ ps)) z]
    rfl
theorem tierAt_take {row : List Int} {d : Lain} (hl : row.length = d.length) {j n : Nat} {x : Int} {e : List Int × Nat} (h1 : row[j]? = some x) (h2 : d[j]? = some e) : tierAt (row.take (j + 1)) (d.take (j + 1)) n = tierAt (row.take j) (d.take j) n ++ if e.2 = n then [x] else [] := by
  rw [take_snoc h1, take_snoc h2]
  obtain ⟨e1, e2⟩ := e
  exact tierAt_snoc (by rw [List.length_take, List.length_take, hl]) x e1 e2 n
abbrev sLLay : Stmt := topS 73
abbrev nLLay : List Str := ["_law_shapes_here", "_law_row_here", "_law_level", "_law_found", "_law_place", "_law_mine", "_law_high", "_law_k"]
theorem scLLay : FnScope nLLay ["_law_shapes_here", "_law_row_here"] (defScope sLLay) := ⟨rfl, rfl, rfl, by decide +kernel, rfl, by decide +kernel, by decide +kernel⟩
/-- lists that were not there -/
def NewLs (H H' : Hp) : List V → List (List Int) → Prop := All2 fun v t => ∃ a, v = .ref a ∧ H a = none ∧ H' a = some (.lst (t.map V.int))
def spLLay (K : PySem.W.Frag) : Sp := fun vs H Q _ => ∃ (e r : Addr) (xs : List V) (fs : List (List Tri)) (row : List Int), vs = [.ref e, .ref r] ∧ SqL K H e xs ∧ All2 (FigT K H) xs fs ∧ (∀ f ∈ fs, f.length ≤ 100) ∧ SqL K H r (row.map V.int) ∧ row.length ≤ 500 ∧ (∀ x ∈ row, InF fs x) ∧
  ∀ H' l ys, Same H H' → H l = none → H' l = some (.lst ys) → NewLs H H' ys (tiersM fs row) → Q (.ref l) H'
section
variable {P : Program} {w : World} {K : PySem.W.Frag} {mg : Str → Option Value} {base : Heap}
theorem ok_llay {f fM : Addr} {fd fdM : FuncData} {k : Nat} (F : Fun K "_law_layers" "_law_layers" sLLay f fd) (mr : mg "range" = none) (ml : mg "len" = none) (mx : mg "max" = none) (mso : mg "sorted" = none)
    (FM : Fun K "_law_meet" "_law_meet" sLMeet fM fdM) (bM : Binds K fdM ["_law_one", "_law_other"] []) (gM : mg "_law_meet" = some (.ref fM)) (GM : FnOk P w K mg base CX0 k fM fdM ["_law_one", "_law_other"] (spLMeet K)) :
    FnOk P w K mg base CX0 (k + 1) f fd ["_law_shapes_here", "_law_row_here"] (spLLay K) := by
  refine F.ok scLLay (fun vs H Q E h => ?_) (fun cdv A outer s H vs Q E hr h => ?_)
  · obtain ⟨e, r, xs, fs, row, rfl, _⟩ := h
    rfl
  · obtain ⟨e, r, xs, fs, row, rfl, he, hA, hfl, hr0, hrl, hin, q⟩ := h
    refine ⟨_, pss_cons (ps_asg (pe_tup (pa_cons (pe_lst pa_nil) (pa_cons (pe_lst pa_nil) pa_nil))) (pg_tup (by rfl) (pgs_cons (pg_name (i := 2) scLLay.nd rfl (.inr rfl)) (pgs_cons (pg_name (i := 3) scLLay.nd rfl (.inl rfl)) pgs_nil))))
      (pss_cons (ps_for PassesOwn.never rfl (pi_range1 (by rfl) mr (pa_cons (pe_callB call_lenQ (by rfl) ml PySem.boot_len (pa_cons (pv 1) pa_nil)) pa_nil)) (pg_name (i := 4) scLLay.nd rfl (.inr rfl))
        (pss_cons (ps_setLc (i := 5) (own := [("_law_k", 7)]) (g := gName 7) rfl scLLay.nd rfl rfl (sw_true rfl rfl rfl (by decide +kernel)) (pi_range1 (by rfl) mr (pa_cons (pv 4) pa_nil))
            (blkOk_by (own := [("_law_k", 7)]) (N := nLLay) (sc := defScope sLLay) (by decide +kernel)) (fun _ _ _ _ _ => pg_name (i := 7) scLLay.nd rfl (.inl rfl))
            (fun _ _ _ _ _ => pts_one (pt_val (pe_call GM hr (by rfl) gM FM.kp bM .nil pass0 (pa_cons (pe_ix (r := rIx K) ix_seq (pv 0) (pe_ix (r := rIx K) ix_seq (pv 1) (pv 7) (fun _ _ => rfl)) (fun _ _ => rfl)) (pa_cons (pe_ix (r := rIx K) ix_seq (pv 0) (pe_ix (r := rIx K) ix_seq (pv 1) (pv 4) (fun _ _ => rfl)) (fun _ _ => rfl)) pa_nil)))))
            (fun _ _ _ _ _ => pe_ix (r := rIx K) ix_seq (pv 2) (pv 7) (fun _ _ => rfl)))
        (pss_one (ps_expr (pe_bm PySem.F.plainAttrs_list PySem.F.slot_list_append PySem.F.type_list_append mt_append (pv 2) (pa_cons (pe_op op_add (pe_callB (cr_max rfl) (by rfl) mx (by decide +kernel) (pa_cons (pe_op op_cat (pv 5) (pe_lst (pa_cons (pe_un un_neg pe_int) pa_nil))) pa_nil)) pe_int) pa_nil))))))
      (pss_cons (ps_for PassesOwn.never rfl (pi_range1 (by rfl) mr (pa_cons (pe_op op_add (pe_callB (cr_max rfl) (by rfl) mx (by decide +kernel) (pa_cons (pe_op op_cat (pv 2) (pe_lst (pa_cons (pe_un un_neg pe_int) pa_nil))) pa_nil)) pe_int) pa_nil)) (pg_name (i := 6) scLLay.nd rfl (.inr rfl))
        (pss_one (ps_expr (pe_bm PySem.F.plainAttrs_list PySem.F.slot_list_append PySem.F.type_list_append mt_append (pv 3) (pa_cons (pe_callB cr_sortedI (by rfl) mso (by decide +kernel) (pa_cons (pe_lc (own := [("_law_place", 4)]) (g := gName 4) rfl scLLay.nd (pi_range1 (by rfl) mr (pa_cons (pe_callB call_lenQ (by rfl) ml PySem.boot_len (pa_cons (pv 1) pa_nil)) pa_nil))
            (blkOk_by (own := [("_law_place", 4)]) (N := nLLay) (sc := defScope sLLay) (by decide +kernel)) (fun _ _ _ _ _ => pg_name (i := 4) scLLay.nd rfl (.inl rfl))
            (fun _ _ _ _ _ => pts_one (pt_cmpR op_eq (pe_ix (r := rIx K) ix_seq (pv 2) (pv 4) (fun _ _ => rfl)) (pv 6) (nomark _)))
            (fun _ _ _ _ _ => pe_ix (r := rIx K) ix_seq (pv 1) (pv 4) (fun _ _ => rfl))) pa_nil)) pa_nil)))))
      (pss_one (ps_ret (pv 3))))), ?_⟩
    refine ⟨Nat.zero_le _, fun lv nlv => ⟨Nat.zero_le _, fun fnd nfnd => ⟨(show (2 : Nat) ≤ sizeLine by decide), fun tp ntp => ?_⟩⟩⟩
    have u1 := same_upd (o := .lst []) nlv
    have u2 := same_upd (o := .lst []) nfnd
    have u3 := same_upd (o := .tup [.ref lv, .ref fnd]) ntp
    have hlf : lv ≠ fnd := fun z => by rw [← z, upd_same] at nfnd; cases nfnd
    have nf0 : H fnd = none := u1.free nfnd
    have h3l := u3 _ _ (u2 _ _ (upd_same (H := H) (a := lv) (o := .lst [])))
    have h3f := u3 _ _ (upd_same (H := upd H lv (.lst [])) (a := fnd) (o := .lst []))
    have h3t : SqT K (upd (upd (upd H lv (.lst [])) fnd (.lst [])) tp (.tup [.ref lv, .ref fnd])) tp [.ref lv, .ref fnd] := SqT.of upd_same
    have s3 := (u1.trans u2).trans u3
    generalize upd (upd (upd H lv (.lst [])) fnd (.lst [])) tp (.tup [.ref lv, .ref fnd]) = H3 at h3l h3f h3t s3 ⊢
    clear u1 u2 u3 ntp nfnd
    refine ⟨tp, _, rfl, h3t, rfl, _, _, rfl, _, _, rfl, rfl, ?_⟩
    refine ⟨.ref r, rfl, r, _, rfl, .inl (s3.seq hr0), ((row.map V.int).length : Nat), rfl, by rw [List.length_map]; omega, by rw [List.length_map]; omega, ?_⟩
    rw [List.length_map, Int.toNat_natCast]
    refine for_range (lo := 0) (n := row.length) (fun i σ H' => ∃ (y4 y5 : Option V), σ = [some (.ref e), some (.ref r), some (.ref lv), some (.ref fnd), y4, y5, none, none] ∧ Same H H' ∧ H' lv = some (.lst ((levs (lay (pdF fs) (row.take i))).map V.int)) ∧ H' fnd = some (.lst [])) ⟨none, none, rfl, s3, h3l, h3f⟩ ?_ ?_
    · rintro i σ H' hi ⟨y4, y5, rfl, sm, hlv, hfn⟩
      clear h3l h3f h3t s3
      rw [Int.zero_add]
      obtain ⟨x, hx⟩ : ∃ x, row[i]? = some x := ⟨_, List.getElem?_eq_getElem hi⟩
      refine ⟨.int (i : Nat), rfl, (i : Int), rfl, by omega, by omega, fun D nD => ?_⟩
      rw [Int.toNat_natCast]
      refine lc_range (lo := 0) (n := i) (fun kk H2 => Same H' H2 ∧ H2 D = some (.lst ((levs (meets ((lay (pdF fs) (row.take i)).take kk) (pdF fs x))).map V.int))) ⟨same_upd nD, upd_same⟩ (fun kk H2 hkk hP => ?_) (fun H2 hP => ?_)
      · obtain ⟨sm2, hD⟩ := hP
        rw [Int.zero_add]
        have s2 := sm.trans sm2
        have hkr : kk < row.length := by omega
        obtain ⟨y, hy⟩ : ∃ y, row[kk]? = some y := ⟨_, List.getElem?_eq_getElem hkr⟩
        obtain ⟨n1, v1, f1, rfl, hn1, hv1, hF1, hl1, ep1⟩ := fig_at (hA.mono fun _ _ => FigT.ts (TS.of (K := K) s2)) hfl (hin y (List.mem_of_getElem? hy))
        obtain ⟨n2, v2, f2, rfl, hn2, hv2, hF2, hl2, ep2⟩ := fig_at (hA.mono fun _ _ => FigT.ts (TS.of (K := K) s2)) hfl (hin x (List.mem_of_getElem? hx))
        have hrow : ∀ (j : Nat) (z : Int), row[j]? = some z → (row.map V.int)[j]? = some (.int z) := fun j z hz => by rw [List.getElem?_map, hz]; rfl
        refine ⟨rfl, .ref e, rfl, .ref r, rfl, .int (kk : Nat), rfl, ix_any (.inl (s2.seq hr0)) (hrow _ _ hy) (ix_any (.inl (s2.seq he)) hv1 ?_)⟩
        refine ⟨.ref e, rfl, .ref r, rfl, .int (i : Nat), rfl, ix_any (.inl (s2.seq hr0)) (hrow _ _ hx) (ix_any (.inl (s2.seq he)) hv2 ?_)⟩
        refine ⟨v1, v2, f1, f2, rfl, hF1, hF2, hl1, hl2, fun H3 s3 => ⟨_, rfl, ?_⟩⟩
        rw [← ep1, ← ep2, any_comm]
        have hyt : (row.take i)[kk]? = some (n1 : Int) := by rw [List.getElem?_take, if_pos hkk]; exact hy
        obtain ⟨lvl, hlvl⟩ := lay_get (pd := pdF fs) hyt
        have hms := meets_snoc (ps := pdF fs (n2 : Int)) hlvl
        have hD3 := s3 _ _ hD
        have hlv3 := (sm2.trans s3) _ _ hlv
        by_cases z : ((pdF fs (n1 : Int)).any fun p => decide (p ∈ pdF fs (n2 : Int))) = true
        · rw [if_pos z] at hms
          rw [z]
          refine iteT ⟨.ref lv, rfl, .int (kk : Nat), rfl, ix_any (.inl (SqL.of hlv3)) (by unfold levs; rw [List.getElem?_map, List.getElem?_map, hlvl]; rfl) ⟨_, hD3, ?_, Same.offUpd (sm2.trans s3) nD, ?_⟩⟩
          · rw [List.length_map]
            unfold levs meets
            rw [List.length_map]
            refine small1000 (Nat.le_trans (List.length_filter_le ..) ?_)
            rw [List.length_take]
            omega
          · rw [upd_same, hms, List.map_append]
            rfl
        · rw [if_neg z, List.append_nil] at hms
          rw [Bool.not_eq_true] at z
          rw [z]
          refine iteF ⟨sm2.trans s3, ?_⟩
          rw [hms]
          exact hD3
      · obtain ⟨sm2, hD⟩ := hP
        have ll : (lay (pdF fs) (row.take i)).length = i := by rw [← lay_len, List.length_take]; omega
        rw [List.take_of_length_le (by omega)] at hD
        have hlv2 := sm2 _ _ hlv
        refine ⟨.ref lv, rfl, .inl ⟨rfl, _, SqL.of hlv2⟩, .ref D, rfl, 1, rfl, (show (1 : Nat) ≤ sizeLine by decide), fun q1 nq1 => ?_⟩
        have v1 := same_upd (o := .lst [.int (-1)]) nq1
        refine ⟨D, q1, _, _, rfl, rfl, v1 _ _ hD, upd_same, ?_, fun q2 nq2 => ?_⟩
        · rw [List.length_map]
          unfold levs meets
          rw [List.length_map]
          have := List.length_filter_le (fun e : List Int × Nat => e.1.any fun p => decide (p ∈ pdF fs x)) (lay (pdF fs) (row.take i))
          refine Nat.le_of_lt (small1000 ?_)
          show _ + 1 ≤ 1000
          omega
        have v2 := same_upd (o := .lst ((levs (meets (lay (pdF fs) (row.take i)) (pdF fs x))).map V.int ++ [.int (-1)])) nq2
        refine ⟨q2, levs (meets (lay (pdF fs) (row.take i)) (pdF fs x)) ++ [-1], rfl, SqL.of (by rw [upd_same, List.map_append]; rfl), by rw [List.length_append]; exact Nat.succ_pos _, fun m hm hmx => ?_⟩
        have em := max_levels (d := lay (pdF fs) (row.take i)) (ps := pdF fs x) rfl hm hmx
        have v12 := v1.trans v2
        refine ⟨_, _, rfl, rfl, lv, _, _, rfl, rfl, v12 _ _ hlv2, ?_, ?_⟩
        · rw [List.length_map]
          unfold levs
          rw [List.length_map]
          exact small1000 (by omega)
        refine ⟨_, _, rfl, Same.offUpd ((sm.trans sm2).trans v12) nlv, ?_, ?_⟩
        · rw [upd_same, take_snoc hx, lay_snoc]
          unfold levs
          rw [List.map_append, List.map_append]
          show some (HO.lst (_ ++ [V.int (m + 1)])) = some (HO.lst (_ ++ [V.int ((figH (lay (pdF fs) (row.take i)) (pdF fs x) : Nat) : Int)]))
          rw [em]
        · rw [upd_ne hlf.symm]
          exact (sm2.trans v12) _ _ hfn
    · rintro σ H' ⟨y4, y5, rfl, sm, hlv, hfn⟩
      clear h3l h3f h3t s3
      rw [List.take_length] at hlv
      have ll : (lay (pdF fs) row).length = row.length := (lay_len _ _).symm
      refine ⟨.ref lv, rfl, 1, rfl, (show (1 : Nat) ≤ sizeLine by decide), fun q1 nq1 => ?_⟩
      have v1 := same_upd (o := .lst [.int (-1)]) nq1
      refine ⟨lv, q1, _, _, rfl, rfl, v1 _ _ hlv, upd_same, ?_, fun q2 nq2 => ?_⟩
      · rw [List.length_map]
        unfold levs
        rw [List.length_map]
        refine Nat.le_of_lt (small1000 ?_)
        show _ + 1 ≤ 1000
        omega
      have v2 := same_upd (o := .lst ((levs (lay (pdF fs) row)).map V.int ++ [.int (-1)])) nq2
      have v12 := v1.trans v2
      refine ⟨q2, levs (lay (pdF fs) row) ++ [-1], rfl, SqL.of (by rw [upd_same, List.map_append]; rfl), by rw [List.length_append]; exact Nat.succ_pos _, fun m hm hmx => ?_⟩
      have em := tops_max (d := lay (pdF fs) row) rfl hm hmx
      have htl := tops_le_len (pdF fs) row
      refine ⟨_, _, rfl, rfl, m + 1, rfl, by omega, by omega, ?_⟩
      rw [em, Int.toNat_natCast]
      have s5 := sm.trans v12
      have hlv5 := v12 _ _ hlv
      have hfn5 := v12 _ _ hfn
      generalize upd (upd H' q1 (.lst [.int (-1)])) q2 (.lst ((levs (lay (pdF fs) row)).map V.int ++ [.int (-1)])) = H5 at s5 hlv5 hfn5 ⊢
      clear v1 v2 v12 nq1 nq2 sm hlv hfn hm hmx em
      refine for_range (lo := 0) (n := tops (lay (pdF fs) row)) (fun i σ H' => ∃ (y4 y5 y6 : Option V), σ = [some (.ref e), some (.ref r), some (.ref lv), some (.ref fnd), y4, y5, y6, none] ∧ Same H H' ∧ H' lv = some (.lst ((levs (lay (pdF fs) row)).map V.int)) ∧ ∃ zs, H' fnd = some (.lst zs) ∧ All2 (fun v t => ∃ a, v = .ref a ∧ a ≠ fnd ∧ H a = none ∧ H' a = some (.lst (t.map V.int))) zs ((tiersM fs row).take i)) ⟨_, _, none, rfl, s5, hlv5, [], hfn5, True.intro⟩ ?_ ?_
      · rintro i σ H' hi ⟨y4, y5, y6, rfl, sm, hlv, zs, hfn, hz⟩
        rw [Int.zero_add]
        have hzl := hz.len
        rw [List.length_take] at hzl
        refine ⟨.ref fnd, rfl, .inl ⟨rfl, _, SqL.of hfn⟩, .ref r, rfl, r, _, rfl, .inl (sm.seq hr0), ((row.map V.int).length : Nat), rfl, by rw [List.length_map]; omega, by rw [List.length_map]; omega, fun D nD => ?_⟩
        rw [List.length_map, Int.toNat_natCast]
        refine lc_range (lo := 0) (n := row.length) (fun jj H2 => Same H' H2 ∧ H2 D = some (.lst ((tierAt (row.take jj) ((lay (pdF fs) row).take jj) i).map V.int))) ⟨same_upd nD, upd_same⟩ (fun jj H2 hjj hP => ?_) (fun H2 hP => ?_)
        · obtain ⟨sm2, hD⟩ := hP
          rw [Int.zero_add]
          obtain ⟨x, hx⟩ : ∃ x, row[jj]? = some x := ⟨_, List.getElem?_eq_getElem hjj⟩
          obtain ⟨lvl, hlvl⟩ := lay_get (pd := pdF fs) hx
          have hts := tierAt_take (n := i) (lay_len (pdF fs) row) hx hlvl
          refine ⟨rfl, .ref lv, rfl, .int (jj : Nat), rfl, ix_any (.inl (SqL.of (sm2 _ _ hlv))) (v := .int (lvl : Nat)) (by unfold levs; rw [List.getElem?_map, List.getElem?_map, hlvl]; rfl) ⟨.int (i : Nat), rfl, rfl, _, rfl, ?_⟩⟩
          dsimp only at hts
          by_cases z : lvl = i
          · rw [decide_eq_true (by rw [z])]
            rw [if_pos z] at hts
            refine iteT ⟨.ref r, rfl, .int (jj : Nat), rfl, ix_any (.inl ((sm.trans sm2).seq hr0)) (v := .int x) (by rw [List.getElem?_map, hx]; rfl) ⟨_, hD, ?_, Same.offUpd sm2 nD, ?_⟩⟩
            · rw [List.length_map]
              unfold tierAt
              rw [List.length_map]
              refine small1000 (Nat.le_trans (List.length_filter_le ..) ?_)
              rw [List.length_zip, List.length_take]
              omega
            · rw [upd_same, hts, List.map_append]
              rfl
          · rw [decide_eq_false (fun y => z (by have := V.int.inj y; omega))]
            rw [if_neg z, List.append_nil] at hts
            refine iteF ⟨sm2, ?_⟩
            rw [hts]
            exact hD
        · obtain ⟨sm2, hD⟩ := hP
          rw [List.take_length, List.take_of_length_le (by omega)] at hD
          refine ⟨D, _, rfl, SqL.of hD, fun ns' so p1 p2 nso => ?_⟩
          have u := same_upd (o := .lst (ns'.map V.int)) nso
          have hfn3 := (sm2.trans u) _ _ hfn
          have hsf : so ≠ fnd := fun z => by rw [z, sm2 _ _ hfn] at nso; cases nso
          refine ⟨fnd, _, _, rfl, rfl, hfn3, small1000 (by omega), ?_⟩
          have ht : (tiersM fs row)[i]? = some ns' := by
            unfold tiersM
            rw [List.getElem?_map, List.getElem?_range hi, srt_eq p1 p2]
            rfl
          refine ⟨_, _, _, rfl, Same.offUpd (sm.trans (sm2.trans u)) nf0, ?_, zs ++ [.ref so], upd_same, ?_⟩
          · rw [upd_ne hlf]
            exact (sm2.trans u) _ _ hlv
          · rw [take_snoc ht]
            exact All2.snoc ⟨so, rfl, hsf, (sm.trans sm2).free nso, by rw [upd_ne hsf]; exact upd_same⟩ (hz.mono fun v t ⟨a, e1, e2, e3, e4⟩ => ⟨a, e1, e2, e3, by rw [upd_ne e2]; exact (sm2.trans u) _ _ e4⟩)
      · rintro σ H' ⟨y4, y5, y6, rfl, sm, hlv, zs, hfn, hz⟩
        rw [List.take_of_length_le (by unfold tiersM; rw [List.length_map, List.length_range]; exact Nat.le_refl _)] at hz
        exact ⟨.ref fnd, rfl, q H' fnd zs sm nf0 hfn (hz.mono fun v t ⟨a, e1, e2, e3, e4⟩ => ⟨a, e1, e3, e4⟩)⟩
end
/-! ### len(o), repr(o), str(o) of an own class with __len__, __repr__, __str__ -/
section
variable {X : Cx} {n : Nat} {CX : CXT} {C f : Addr} {fd : FuncData} {ps : List Str} {sp : Sp} {E : XK}
theorem call_own1 {A : Around} {pins : List (Addr × Obj)} {s : Shared} {σ : L2.St} {H : Hp} {x : V} {u : Value} {Q : VK} (F : FnOk X.prog X.w X.K X.mg X.base CX n f fd ps sp) (hb : Binds X.K fd ps []) (hx : Passes CX X E)
    (hr : Room n A) (fr : A.frames = X.A.frames) (I : Inv X pins σ H s) (rx : RelV x u) (h : sp [x] H Q E) :
    wpAny (model X.prog X.w) A (call (.ref f) [u]) (EP X pins σ Q) X.xe s := by
  have e0 : Env0 X.prog X.w X.K X.mg X.base A X.stack s H := by
    have e := I.env0
    exact ⟨by rw [fr]; exact e.frames, e.mod, e.bs, e.bsz, e.funs, e.frf, e.hok, e.bare⟩
  have hl := F.len _ _ _ _ h
  refine wpAny_call (codeAny_mono (F.run A X.stack s H ⟨[u], []⟩ [u] [x] _ E hr e0 (by
    have := hb s [u] I.kIn (by simpa using hl)
    simpa using this) (.cons rx .nil) h) fun r s' hq => ?_)
  cases r with
  | error e => exact hx pins σ H s e s' I hq
  | ok fl =>
    cases fl with
    | ret w => exact I.after hq
    | next => exact False.elim hq
    | brk => exact False.elim hq
    | cont => exact False.elim hq
def rLen1 (C : Addr) (sp : Sp) (E : XK) : List V → Hp → VK → Prop := fun xs H Q => ∃ a dx fs, xs = [.ref a] ∧ H a = some (.ins C dx fs) ∧ sp [.ref a] H (fun v H' => ∃ n : Nat, v = .int (n : Int) ∧ n < 2 ^ 62 ∧ Q (.int (n : Int)) H') E
theorem call_lenOwn (hs : PySem.W.findIn X.K (.ref C) "__len__" = some (some (.ref f))) (hf : PySem.W.isFn X.K (.ref f) = true) (F : FnOk X.prog X.w X.K X.mg X.base CX n f fd ps sp) (hb : Binds X.K fd ps []) (hx : Passes CX X E) (hr : Room (n + 1) X.A) : CallR X (.builtin "len") (rLen1 C sp E) := by
  intro pins s σ H xs us Q I r h
  obtain ⟨a, dx, fs, rfl, ha, h⟩ := h
  rw [Vals.ref1 r]
  obtain ⟨mA, J, _⟩ := ins_get I.hok ha
  obtain ⟨od, J, _⟩ := J.look
  obtain ⟨m, hF⟩ := I.fr
  refine PySem.W.len_K hF I.ok.mod.kin J hs hf ?_
  refine wpAny_mono (call_own1 (X := X) (A := X.A.in1) F hb hx hr.in1 rfl I (x := .ref a) rfl h) (fun v s' z => ?_) fun _ _ e => e
  obtain ⟨w, H', I', rw', k, ew, hk, q⟩ := z
  subst ew
  obtain ⟨t, rfl⟩ := rw'
  exact ⟨⟨by omega, by omega⟩, .int (k : Int), H', I'.kept (h' := s'.heap) (t' := s'.toks + 1) (fun b o e => e), ⟨_, rfl⟩, q⟩
def rStr1 (C : Addr) (sp : Sp) (E : XK) : List V → Hp → VK → Prop := fun xs H Q => ∃ a dx fs, xs = [.ref a] ∧ H a = some (.ins C dx fs) ∧ sp [.ref a] H (fun v H' => ∃ z : Str, v = .str z ∧ Q (.str z) H') E
theorem call_reprOwn (hs : PySem.W.findIn X.K (.ref C) "__repr__" = some (some (.ref f))) (hf : PySem.W.isFn X.K (.ref f) = true) (F : FnOk X.prog X.w X.K X.mg X.base CX n f fd ps sp) (hb : Binds X.K fd ps []) (hx : Passes CX X E) (hr : Room (n + 1) X.A) : CallR X (.builtin "repr") (rStr1 C sp E) := by
  intro pins s σ H xs us Q I r h
  obtain ⟨a, dx, fs, rfl, ha, h⟩ := h
  rw [Vals.ref1 r]
  obtain ⟨mA, J, _⟩ := ins_get I.hok ha
  obtain ⟨od, J, _⟩ := J.look
  obtain ⟨m, hF⟩ := I.fr
  refine PySem.W.repr_K hr.in1.units0 hF I.ok.mod.kin J hs hf ?_
  refine wpAny_mono (call_own1 (X := X) (A := X.A.in1) F hb hx hr.in1 rfl I (x := .ref a) rfl h) (fun v s' z => ?_) fun _ _ e => e
  obtain ⟨w, H', I', rw', k, ew, q⟩ := z
  subst ew
  obtain ⟨t, rfl⟩ := rw'
  exact ⟨.str k, H', I', ⟨_, rfl⟩, q⟩
end
/-! ### _law_heap_scene -/
abbrev sScene : Stmt := topS 67
abbrev nScene : List Str := ["_law_bag_here", "_law_pads_here", "_law_my_figures", "_law_colours", "_law_shapes_here"]
theorem scScene : FnScope nScene ["_law_bag_here", "_law_pads_here", "_law_my_figures"] (defScope sScene) := ⟨rfl, rfl, rfl, by decide +kernel, rfl, by decide +kernel, by decide +kernel⟩
/-- colours, figures and their book, amid a law -/
structure Sc (K : PySem.W.Frag) (C b d e x : Addr) (cs : List Int) (xs : List V) (fs : List (List Tri)) (H : Hp) : Prop where
  cols : H d = some (.lst (cs.map V.int))
  shps : H e = some (.lst xs)
  figs : All2 (FigT K H) xs fs
  book : BookAt K C H x cs fs
  db : d ≠ b
  eb : e ≠ b
  xb : x ≠ b
  gc : GoodC cs
  gb : GoodB cs fs
  ne : fs ≠ []
  len : fs.length ≤ 12
theorem Sc.same {K : PySem.W.Frag} {C b d e x : Addr} {cs : List Int} {xs : List V} {fs : List (List Tri)} {H H' : Hp} (h : Sc K C b d e x cs xs fs H) (s : Same H H') : Sc K C b d e x cs xs fs H' :=
  ⟨s _ _ h.cols, s _ _ h.shps, h.figs.mono fun _ _ => FigT.ts (TS.of s), h.book.same s, h.db, h.eb, h.xb, h.gc, h.gb, h.ne, h.len⟩
theorem Sc.off {K : PySem.W.Frag} {C b c d e x : Addr} {cs : List Int} {xs : List V} {fs : List (List Tri)} {H H' : Hp} (h : Sc K C b d e x cs xs fs H) (hB : Bag H b c) (o : Off b H H') : Sc K C b d e x cs xs fs H' := by
  obtain ⟨cells, a', r, s, h1, _⟩ := hB.ex
  exact ⟨o _ _ h.db h.cols, o _ _ h.eb h.shps, h.figs.mono fun _ _ => FigT.ts (TS.bag o hB), h.book.offL o h1 h.xb, h.db, h.eb, h.xb, h.gc, h.gb, h.ne, h.len⟩
theorem Sc.offU {K : PySem.W.Frag} {C b d e x D : Addr} {cs : List Int} {xs ys : List V} {fs : List (List Tri)} {H H' : Hp} (h : Sc K C b d e x cs xs fs H) (hD : H D = some (.lst ys)) (o : Off D H H') (nd : d ≠ D := by assumption) (ne : e ≠ D := by assumption) (nx : x ≠ D := by assumption) : Sc K C b d e x cs xs fs H' :=
  ⟨o _ _ nd h.cols, o _ _ ne h.shps, h.figs.mono fun _ _ => FigT.ts (TS.but o hD), h.book.offL o hD nx, h.db, h.eb, h.xb, h.gc, h.gb, h.ne, h.len⟩
/-- a new object is none of these -/
theorem Sc.new {K : PySem.W.Frag} {C b d e x D : Addr} {cs : List Int} {xs : List V} {fs : List (List Tri)} {H : Hp} (h : Sc K C b d e x cs xs fs H) (n : H D = none) : d ≠ D ∧ e ≠ D ∧ x ≠ D := by
  obtain ⟨dx, a, b', xs', h1, _⟩ := h.book
  exact ⟨ne_of_none h.cols n, ne_of_none h.shps n, ne_of_none h1 n⟩
theorem Sc.good {K : PySem.W.Frag} {C b d e x : Addr} {cs : List Int} {xs : List V} {fs : List (List Tri)} {H : Hp} (h : Sc K C b d e x cs xs fs H) : ∀ f ∈ fs, GoodF cs f := h.gb.all
theorem Sc.flen {K : PySem.W.Frag} {C b d e x : Addr} {cs : List Int} {xs : List V} {fs : List (List Tri)} {H : Hp} (h : Sc K C b d e x cs xs fs H) : ∀ f ∈ fs, f.length ≤ 100 := fun f hf => by
  have := (h.gb.all f hf).len
  have := h.gc.2.1
  omega
theorem Sc.xlen {K : PySem.W.Frag} {C b d e x : Addr} {cs : List Int} {xs : List V} {fs : List (List Tri)} {H : Hp} (h : Sc K C b d e x cs xs fs H) : 1 ≤ xs.length ∧ xs.length ≤ 12 ∧ xs.length = fs.length := by
  have h1 := h.figs.len
  have h2 := List.length_pos_iff.mpr h.ne
  have h3 := h.len
  omega
theorem Sc.inF {K : PySem.W.Frag} {C b d e x : Addr} {cs : List Int} {xs : List V} {fs : List (List Tri)} {H : Hp} (h : Sc K C b d e x cs xs fs H) {row : List Int} (hr : ∀ z ∈ row, (0 : Int) ≤ z ∧ z < (xs.length : Nat)) : ∀ z ∈ row, InF fs z := fun z hz => by
  have := hr z hz
  rw [h.figs.len] at this
  exact this
theorem HpOf.off {K : PySem.W.Frag} {C CH : Addr} {H H' : Hp} {b c p bk : Addr} {cs : List Int} {fs : List (List Tri)} {row : List Int} (h : HpOf K C CH H p bk cs fs row) (hB : Bag H b c) (o : Off b H H') (hp : p ≠ b) (hk : bk ≠ b) : HpOf K C CH H' p bk cs fs row := by
  obtain ⟨cells, a', r, s, h1, _⟩ := hB.ex
  obtain ⟨dx, t, h2, h3⟩ := h.hp
  exact ⟨⟨dx, t, o _ _ hp h2, h3.ts (TS.bag o hB)⟩, h.bk.offL o h1 hk, h.good, h.len, h.inn⟩
def spScene (K : PySem.W.Frag) (C : Addr) : Sp := fun vs H Q _ => ∃ (b c : Addr) (m n : Nat), vs = [.ref b, .int (m : Nat), .int (n : Nat)] ∧ Bag H b c ∧ 0 < m ∧ m ≤ 6 ∧ 0 < n ∧ n ≤ 12 ∧
  ∀ (H' : Hp) (t d e x : Addr) (cs : List Int) (xs : List V) (fs : List (List Tri)), Off b H H' → Bag H' b c → SqT K H' t [.ref d, .ref e, .ref x] → Sc K C b d e x cs xs fs H' → cs.length ≤ m → fs.length ≤ n → Q (.ref t) H'
section
variable {P : Program} {w : World} {K : PySem.W.Frag} {mg : Str → Option Value} {base : Heap}
theorem ok_scene {f C fH fS fI : Addr} {fd fdH fdS fdI : FuncData} {k : Nat} {gI : List Value → List Value → List Value} (F : Fun K "_law_heap_scene" "_law_heap_scene" sScene f fd) (T : BkTxt K mg C) (M : Mk K C fI)
    (FH : Fun K "_law_hues" "_law_hues" sHues fH fdH) (bH : Binds K fdH ["_law_bag_here", "_law_most"] []) (gH : mg "_law_hues" = some (.ref fH)) (GH : FnOk P w K mg base CX0 (k + 1) fH fdH ["_law_bag_here", "_law_most"] spHues)
    (FS : Fun K "_law_shapes" "_law_shapes" sShapes fS fdS) (bS : Binds K fdS ["_law_bag_here", "_law_colours", "_law_most"] []) (gS : mg "_law_shapes" = some (.ref fS)) (GS : FnOk P w K mg base CX0 (k + 1) fS fdS ["_law_bag_here", "_law_colours", "_law_most"] (spShapes K))
    (kI : KBn K fdI ["self", "colours", "figures"] 2 ["figures"] gI (fun vs zs => vs ++ zs)) (GI : FnOk P w K mg base CX0 k fI fdI ["self", "colours", "figures"] (spInit K C)) :
    FnOk P w K mg base CX0 (k + 2) f fd ["_law_bag_here", "_law_pads_here", "_law_my_figures"] (spScene K C) := by
  refine F.ok scScene (fun vs H Q E h => ?_) (fun cdv A outer s H vs Q E hr h => ?_)
  · obtain ⟨b, c, m, n, rfl, _⟩ := h
    rfl
  · obtain ⟨b, c, m, n, rfl, hB, hm0, hm6, hn0, hn12, q⟩ := h
    refine ⟨_, pss_cons (ps_set (i := 3) scScene.nd rfl (.inl rfl) (pe_call GH hr (by rfl) gH FH.kp bH .nil pass0 (pa_cons (pv 0) (pa_cons (pv 1) pa_nil))))
      (pss_cons (ps_set (i := 4) scScene.nd rfl (.inl rfl) (pe_call GS hr (by rfl) gS FS.kp bS .nil pass0 (pa_cons (pv 0) (pa_cons (pv 3) (pa_cons (pv 2) pa_nil)))))
      (pss_one (ps_ret (pe_tup (pa_cons (pv 3) (pa_cons (pv 4) (pa_cons (pe_makeK (n := 1) M GI hr (by rfl) T.mgC kI pass0 (pa_cons (pv 3) pa_nil) (pk_cons (pv 4) pk_nil)) pa_nil))))))), ?_⟩
    refine ⟨.ref b, rfl, .int (m : Nat), rfl, b, c, m, rfl, hB, hm0, by omega, fun H2 d cs off2 hB2 nd2 hdb hd hc1 hc6 hcs => ?_⟩
    refine ⟨.ref b, rfl, .ref d, rfl, .int (n : Nat), rfl, b, c, d, cs, n, rfl, hB2, hd, hdb, hc1, by omega, hcs, by omega, fun H3 e xs fs off3 hB3 ne3 heb he hA hG hfl hne => ?_⟩
    have hd3 := off3 _ _ hdb hd
    refine ⟨.ref d, rfl, .ref e, rfl, .ref d, rfl, .ref e, rfl, rfl, rfl, fun x dx nx ndx nxd => ?_⟩
    refine bmake (C := C) (fs := fs) (SqL.of hd3) (SqL.of he) hA ⟨hc1, by omega, hcs⟩ hG (by omega) nx ndx nxd (fun H4 s4 hX => ⟨rfl, ?_⟩)
    refine ⟨(show (3 : Nat) ≤ sizeLine by decide), fun t nt => ?_⟩
    have u := same_upd (o := .tup [.ref d, .ref e, .ref x]) nt
    have s5 := s4.trans u
    exact q _ t d e x cs xs fs ((off2.trans off3).trans (Off.same s5)) (hB3.same s5) (SqT.of upd_same) ⟨s5 _ _ hd3, s5 _ _ he, hA.mono fun _ _ => FigT.ts (TS.of s5), hX.same u, hdb, heb, (hB3.ne nx).1, ⟨hc1, by omega, hcs⟩, hG, hne hn0, by omega⟩ hc6 hfl
end
/-! ### alike -/
theorem lk_int {K : PySem.W.Frag} {H : Hp} {n : Nat} (i : Int) : Lk K H (n + 1) (.int i) (.int i) := .inl ⟨rfl, .inr (.inr (.inl ⟨i, rfl⟩))⟩
theorem lk_bl {K : PySem.W.Frag} {H : Hp} {n : Nat} (b : Bool) : Lk K H (n + 1) (.bl b) (.bl b) := .inl ⟨rfl, .inr (.inl ⟨b, rfl⟩)⟩
theorem lk_str {K : PySem.W.Frag} {H : Hp} {n : Nat} (z : Str) : Lk K H (n + 1) (.str z) (.str z) := .inl ⟨rfl, .inr (.inr (.inr ⟨z, rfl⟩))⟩
theorem lk_non {K : PySem.W.Frag} {H : Hp} {n : Nat} : Lk K H (n + 1) .non .non := .inl ⟨rfl, .inl rfl⟩
/-- two lists of things that are alike one by one -/
theorem lk_seq {K : PySem.W.Frag} {H : Hp} {n : Nat} {a b : Addr} {xs ys : List V} (h : (SqL K H a xs ∧ SqL K H b ys) ∨ (SqT K H a xs ∧ SqT K H b ys)) (hl : xs.length = ys.length) (h1 : xs.length ≤ 1000) (q : ∀ (i : Nat) (x y : V), xs[i]? = some x → ys[i]? = some y → Lk K H n x y) : Lk K H (n + 1) (.ref a) (.ref b) :=
  .inr ⟨a, b, xs, ys, rfl, rfl, h, hl, h1, q⟩
theorem ints_alike {K : PySem.W.Frag} {H : Hp} {n : Nat} (c : List Int) : ∀ (i : Nat) (x y : V), (c.map V.int)[i]? = some x → (c.map V.int)[i]? = some y → Lk K H (n + 1) x y := fun i x y hx hy => by
  rw [hx] at hy
  obtain rfl := Option.some.inj hy
  rw [List.getElem?_map] at hx
  cases hz : c[i]? with
  | none => rw [hz] at hx; cases hx
  | some z =>
    rw [hz] at hx
    obtain rfl := Option.some.inj hx
    exact lk_int z
theorem lk_intL {K : PySem.W.Frag} {H : Hp} {n : Nat} {a b : Addr} {c : List Int} (h1 : SqL K H a (c.map V.int)) (h2 : SqL K H b (c.map V.int)) (hl : c.length ≤ 1000) : Lk K H (n + 2) (.ref a) (.ref b) :=
  lk_seq (.inl ⟨h1, h2⟩) rfl (by rw [List.length_map]; exact hl) (ints_alike c)
theorem lk_intT {K : PySem.W.Frag} {H : Hp} {n : Nat} {a b : Addr} {c : List Int} (h1 : SqT K H a (c.map V.int)) (h2 : SqT K H b (c.map V.int)) (hl : c.length ≤ 1000) : Lk K H (n + 2) (.ref a) (.ref b) :=
  lk_seq (.inr ⟨h1, h2⟩) rfl (by rw [List.length_map]; exact hl) (ints_alike c)
theorem lk_two {α : Type} {K : PySem.W.Frag} {H : Hp} {n : Nat} {R S : V → α → Prop} {xs ys : List V} {as : List α} (h1 : All2 R xs as) (h2 : All2 S ys as) (q : ∀ x y a, a ∈ as → R x a → S y a → Lk K H n x y) : ∀ (i : Nat) (x y : V), xs[i]? = some x → ys[i]? = some y → Lk K H n x y := fun i x y hx hy => by
  obtain ⟨a, ha, r⟩ := h1.get hx
  obtain ⟨b, hb, s⟩ := h2.get hy
  rw [ha] at hb
  obtain rfl := Option.some.inj hb
  exact q x y a (List.mem_of_getElem? ha) r s
theorem lk_lists {K : PySem.W.Frag} {H : Hp} {n : Nat} {a b : Addr} {xs ys : List V} {ts : List (List Int)} (h1 : SqL K H a xs) (h2 : SqL K H b ys) (h3 : All2 (fun v t => ∃ a, v = .ref a ∧ SqL K H a (t.map V.int)) xs ts) (h4 : All2 (fun v t => ∃ a, v = .ref a ∧ SqL K H a (t.map V.int)) ys ts) (hl : ts.length ≤ 1000) (hd : ∀ t ∈ ts, t.length ≤ 1000) : Lk K H (n + 3) (.ref a) (.ref b) :=
  lk_seq (.inl ⟨h1, h2⟩) (by rw [h3.len, h4.len]) (by rw [h3.len]; exact hl) (lk_two h3 h4 fun x y t ht ⟨c, e1, r1⟩ ⟨d, e2, r2⟩ => by
    subst e1
    subst e2
    exact lk_intL r1 r2 (hd t ht))
theorem tiersM_each {fs : List (List Tri)} {row : List Int} {t : List Int} (h : t ∈ tiersM fs row) : t.length ≤ row.length := by
  obtain ⟨n, _, rfl⟩ := List.mem_map.mp h
  rw [(srt_perm _).length_eq]
  exact tier_len _ _ _
theorem tiersM_count (fs : List (List Tri)) (row : List Int) : (tiersM fs row).length ≤ row.length := by
  unfold tiersM
  rw [List.length_map, List.length_range]
  exact tops_le_len _ _
/-! ### _law_heap_is -/
abbrev sHIs : Stmt := topS 74
abbrev nHIs : List Str := ["_law_heap", "_law_colours", "_law_shapes_here", "_law_row_here"]
theorem scHIs : FnScope nHIs ["_law_heap", "_law_colours", "_law_shapes_here", "_law_row_here"] (defScope sHIs) := ⟨rfl, rfl, rfl, by decide +kernel, rfl, by decide +kernel, by decide +kernel⟩
def spHIs (K : PySem.W.Frag) (C CH : Addr) : Sp := fun vs H Q _ => ∃ (p d e r b x bk : Addr) (cs : List Int) (xs : List V) (fs : List (List Tri)) (row row' : List Int), vs = [.ref p, .ref d, .ref e, .ref r] ∧ Sc K C b d e x cs xs fs H ∧ HpOf K C CH H p bk cs fs row' ∧ SqL K H r (row.map V.int) ∧ row.length ≤ 500 ∧ (∀ x ∈ row, InF fs x) ∧ tiersM fs row' = tiersM fs row ∧
  ∀ H', Same H H' → Q (.bl true) H'
/-- what is known of a class with an own __len__ -/
structure LenTxt (K : PySem.W.Frag) (C f : Addr) : Prop where
  len : PySem.W.findIn K (.ref C) "__len__" = some (some (.ref f))
  fn : PySem.W.isFn K (.ref f) = true
def lenB (K : PySem.W.Frag) (C f : Addr) : Bool := He.eqO (PySem.W.findIn K (.ref C) "__len__") (some (some (.ref f))) && PySem.W.isFn K (.ref f)
theorem lenB_ok {K : PySem.W.Frag} {C f : Addr} (h : lenB K C f = true) : LenTxt K C f := by
  obtain ⟨h1, h2⟩ := He.ba h
  exact ⟨He.eqO_ok h1, h2⟩
section
variable {P : Program} {w : World} {K : PySem.W.Frag} {mg : Str → Option Value} {base : Heap}
theorem ok_his {f C CH fL fLL fK fN fI fB fE : Addr} {fd fdL fdLL fdK fdN fdI fdB fdE : FuncData} {k : Nat} {gI : List Value → List Value → List Value} (F : Fun K "_law_heap_is" "_law_heap_is" sHIs f fd) (T : HpTxt K mg CH) (TB : BkTxt K mg C) (ml : mg "len" = none)
    (bL : Binds K fdL ["self"] []) (mL : Meth K CH "layers" fL) (GL : FnOk P w K mg base CX0 (k + 1) fL fdL ["self"] (spHLay K CH))
    (FLL : Fun K "_law_layers" "_law_layers" sLLay fLL fdLL) (bLL : Binds K fdLL ["_law_shapes_here", "_law_row_here"] []) (gLL : mg "_law_layers" = some (.ref fLL)) (GLL : FnOk P w K mg base CX0 (k + 1) fLL fdLL ["_law_shapes_here", "_law_row_here"] (spLLay K))
    (FK : Fun K "_law_like" "_law_like" sLike fK fdK) (bK : Binds K fdK ["_law_one", "_law_due"] []) (gK : mg "_law_like" = some (.ref fK)) (GK : FnOk P w K mg base CX0 (k + 1) fK fdK ["_law_one", "_law_due"] (spLike K 4))
    (TN : LenTxt K CH fN) (bN : Binds K fdN ["self"] []) (GN : FnOk P w K mg base CX0 k fN fdN ["self"] (spHLen K CH))
    (MH : Mk K CH fI) (GI : FnOk P w K mg base CX0 k fI fdI ["self", "book", "row"] (spHInitC K C CH)) (bI : Binds K fdI ["self", "book", "row"] [])
    (MB : Mk K C fB) (kB : KBn K fdB ["self", "colours", "figures"] 2 ["figures"] gI (fun vs zs => vs ++ zs)) (GB : FnOk P w K mg base CX0 k fB fdB ["self", "colours", "figures"] (spInit K C))
    (TE : ClsE K CH fE) (bE : Binds K fdE ["self", "other"] []) (GE : FnOk P w K mg base CX0 (k + 1) fE fdE ["self", "other"] (spHEq K C CH)) :
    FnOk P w K mg base CX0 (k + 2) f fd ["_law_heap", "_law_colours", "_law_shapes_here", "_law_row_here"] (spHIs K C CH) := by
  refine F.ok scHIs (fun vs H Q E h => ?_) (fun cdv A outer s H vs Q E hr h => ?_)
  · obtain ⟨p, d, e, r, b, x, bk, cs, xs, fs, row, row', rfl, _⟩ := h
    rfl
  · obtain ⟨p, d, e, r, b, x, bk, cs, xs, fs, row, row', rfl, S, hP, hr0, hrl, hin, et, q⟩ := h
    refine ⟨_, pss_cons (ps_if (PW.pt (pw_or (pt_not (pt_val (pe_call GK hr (by rfl) gK FK.kp bK .nil pass0 (pa_cons (pe_meth0 (pv 0) T.cl mL GL hr bL .nil pass0) (pa_cons (pe_call GLL hr (by rfl) gLL FLL.kp bLL .nil pass0 (pa_cons (pv 2) (pa_cons (pv 3) pa_nil))) pa_nil)))))
        (pw_or1 (pt_not (pt_val (pe_call GK hr (by rfl) gK FK.kp bK .nil pass0 (pa_cons (pe_callB (call_lenOwn TN.len TN.fn GN bN pass0 hr) (by rfl) ml PySem.boot_len (pa_cons (pv 0) pa_nil)) (pa_cons (pe_callB call_lenQ (by rfl) ml PySem.boot_len (pa_cons (pv 3) pa_nil)) pa_nil)))))))) (pss_one (ps_ret pe_bl)) pss_nil)
      (pss_one (ps_ret (pe_cmpR (op_eqOwn TE.toEqTxt GE bE pass0 hr) (pv 0) (pe_make MH GI hr (by rfl) T.mgC bI .nil pass0 (pa_cons (pe_makeK (n := 1) MB GB hr (by rfl) TB.mgC kB pass0 (pa_cons (pv 1) pa_nil) (pk_cons (pv 2) pk_nil)) (pa_cons (pv 3) pa_nil))) (nomark _)))), ?_⟩
    have hH := hP.hp
    obtain ⟨dx, t, hp, ht⟩ := id hH
    have l1 := tiersM_count fs row
    have l2 := tiersM_len fs row
    rw [et] at hH
    refine ⟨.ref p, rfl, p, dx, _, rfl, hp, rfl, p, bk, _, rfl, hH, by omega, fun H1 a1 xs1 s1 n1 h1 hz1 => ?_⟩
    refine ⟨.ref e, rfl, .ref r, rfl, e, r, xs, fs, row, rfl, s1.seq (SqL.of S.shps), S.figs.mono fun _ _ => FigT.ts (TS.of s1), S.flen, s1.seq hr0, hrl, hin, fun H2 a2 xs2 s2 n2 h2 hz2 => ?_⟩
    refine ⟨.ref a1, .ref a2, rfl, lk_lists (n := 1) (ts := tiersM fs row) (SqL.of (s2 _ _ h1)) (SqL.of h2) (hz1.mono fun v t ⟨a, e1, _, e3⟩ => ⟨a, e1, SqL.of (s2 _ _ e3)⟩) (hz2.mono fun v t ⟨a, e1, _, e3⟩ => ⟨a, e1, SqL.of e3⟩) (by omega) (fun t ht => by have := tiersM_each ht; omega), fun H3 s3 => ⟨_, rfl, iteF ?_⟩⟩
    have s123 := (s1.trans s2).trans s3
    refine ⟨.ref p, rfl, p, dx, _, rfl, s123 _ _ hp, p, bk, _, rfl, hH.same s123, by omega, fun H4 s4 => ⟨_, rfl, by omega, .ref r, rfl, r, _, rfl, .inl ((s123.trans s4).seq hr0), ?_⟩⟩
    rw [l2, List.length_map]
    have s14 := s123.trans s4
    refine ⟨_, _, rfl, lk_int (n := 3) _, fun H5 s5 => ⟨_, rfl, iteF ?_⟩⟩
    have s15 := s14.trans s5
    have S5 := S.same s15
    refine ⟨.ref p, rfl, .ref d, rfl, .ref e, rfl, rfl, rfl, fun x1 dx1 nx1 ndx1 nxd1 => ?_⟩
    refine bmake (C := C) (fs := fs) (SqL.of S5.cols) (SqL.of S5.shps) S5.figs S5.gc S5.gb S5.len nx1 ndx1 nxd1 (fun H6 s6 hX => ⟨rfl, ?_⟩)
    have s16 := s15.trans s6
    refine ⟨.ref r, rfl, fun x2 dx2 nx2 ndx2 nxd2 => ?_⟩
    refine hmakeC (C := C) (cs := cs) (fs := fs) (row := row) hX S.good (by have := S.gc.2.1; omega) (.inl (s16.seq hr0)) (by omega) hin nx2 ndx2 nxd2 (fun H7 s7 hY => ⟨rfl, ?_⟩)
    have s17 := s16.trans s7
    obtain ⟨dy, ty, hy, hty⟩ := id hY.hp
    refine ⟨p, _, _, _, rfl, s17 _ _ hp, TE.ty T.cl hy, first_self, p, bk, .ref x2, cs, fs, _, rfl, hH.same s17, hP.bk.same s17, .inl ⟨x2, x1, cs, fs, _, rfl, hY.hp, hY.bk, _, rfl, ?_⟩⟩
    rw [decide_eq_true ⟨⟨rfl, rfl⟩, rfl⟩]
    exact q _ s17
end
/-! ### readings of == and != of two heaps of one book -/
theorem rd_heq {K : PySem.W.Frag} {C CH fE : Addr} {H : Hp} {p q bk bk' : Addr} {cs : List Int} {fs : List (List Tri)} {r s : List Int} {g : Bool → Bool} {Q : VK} {E : XK} (TE : ClsE K CH fE) (cl : Cls K CH) (hP : HpOf K C CH H p bk cs fs r) (hQ : HpOf K C CH H q bk' cs fs s)
    (k : Q (.bl (g (decide (tiersM fs r = tiersM fs s)))) H) : rOwn K CH (spHEq K C CH) E g (.ref p) (.ref q) H Q := by
  obtain ⟨dx, t, hp, ht⟩ := id hP.hp
  obtain ⟨dx', t', hq, ht'⟩ := id hQ.hp
  refine ⟨p, dx, _, _, rfl, hp, TE.ty cl hq, first_self, p, bk, .ref q, cs, fs, _, rfl, hP.hp, hP.bk, .inl ⟨q, bk', cs, fs, _, rfl, hQ.hp, hQ.bk, _, rfl, ?_⟩⟩
  rw [show decide ((cs = cs ∧ fs = fs) ∧ tiersM fs r = tiersM fs s) = decide (tiersM fs r = tiersM fs s) from by simp]
  exact k
/-! ### what stays where a lambda was made: the scene, pairs -/
theorem Sc.ext {K : PySem.W.Frag} {C b d e x : Addr} {cs : List Int} {xs : List V} {fs : List (List Tri)} {H H' : Hp} (h : Sc K C b d e x cs xs fs H) (s : LamX.ExtN H H') : Sc K C b d e x cs xs fs H' :=
  ⟨s _ _ h.cols (fun _ z => nomatch z), s _ _ h.shps (fun _ z => nomatch z), h.figs.mono fun _ _ => FigT.ts (TS.ext s), h.book.ext s, h.db, h.eb, h.xb, h.gc, h.gb, h.ne, h.len⟩
theorem none_back {H H' : Hp} {a : Addr} (s : Same H H') (n : H' a = none) : H a = none := by
  cases e : H a with
  | none => rfl
  | some o => rw [s _ _ e] at n; cases n
theorem same_put {H H' : Hp} {a : Addr} {o : HO} (s : Same H H') (n : H a = none) : Same H (upd H' a o) := fun b x e => by
  rw [upd_ne (ne_of_none e n)]
  exact s _ _ e
theorem lk_pair {K : PySem.W.Frag} {H : Hp} {n : Nat} {a b : Addr} {z : Str} {x y : V} (h1 : SqT K H a [.str z, x]) (h2 : SqT K H b [.str z, y]) (h : Lk K H (n + 1) x y) : Lk K H (n + 2) (.ref a) (.ref b) :=
  lk_seq (.inr ⟨h1, h2⟩) rfl (show (2 : Nat) ≤ 1000 by decide) fun i x' y' hx hy => by
    match i, hx, hy with
    | 0, hx, hy =>
      obtain rfl := Option.some.inj hx
      obtain rfl := Option.some.inj hy
      exact lk_str z
    | 1, hx, hy =>
      obtain rfl := Option.some.inj hx
      obtain rfl := Option.some.inj hy
      exact h
theorem lk_dos {K : PySem.W.Frag} {H : Hp} {n : Nat} {a b : Addr} {x y x' y' : V} (h1 : SqL K H a [x, y]) (h2 : SqL K H b [x', y']) (k1 : Lk K H n x x') (k2 : Lk K H n y y') : Lk K H (n + 1) (.ref a) (.ref b) :=
  lk_seq (.inl ⟨h1, h2⟩) rfl (show (2 : Nat) ≤ 1000 by decide) fun i u v hx hy => by
    match i, hx, hy with
    | 0, hx, hy =>
      obtain rfl := Option.some.inj hx
      obtain rfl := Option.some.inj hy
      exact k1
    | 1, hx, hy =>
      obtain rfl := Option.some.inj hx
      obtain rfl := Option.some.inj hy
      exact k2
theorem lk_tres {K : PySem.W.Frag} {H : Hp} {n : Nat} {a b : Addr} {x y z x' y' z' : V} (h1 : SqL K H a [x, y, z]) (h2 : SqL K H b [x', y', z']) (k1 : Lk K H n x x') (k2 : Lk K H n y y') (k3 : Lk K H n z z') : Lk K H (n + 1) (.ref a) (.ref b) :=
  lk_seq (.inl ⟨h1, h2⟩) rfl (show (3 : Nat) ≤ 1000 by decide) fun i u v hx hy => by
    match i, hx, hy with
    | 0, hx, hy =>
      obtain rfl := Option.some.inj hx
      obtain rfl := Option.some.inj hy
      exact k1
    | 1, hx, hy =>
      obtain rfl := Option.some.inj hx
      obtain rfl := Option.some.inj hy
      exact k2
    | 2, hx, hy =>
      obtain rfl := Option.some.inj hx
      obtain rfl := Option.some.inj hy
      exact k3
theorem rd_beq {K : PySem.W.Frag} {C fE : Addr} {H : Hp} {p q : Addr} {cs : List Int} {fs : List (List Tri)} {g : Bool → Bool} {Q : VK} {E : XK} (TE : ClsE K C fE) (cl : Cls K C) (hP : BookAt K C H p cs fs) (hQ : BookAt K C H q cs fs)
    (k : Q (.bl (g true)) H) : rOwn K C (spBEq K C) E g (.ref p) (.ref q) H Q := by
  obtain ⟨dx, a, b, xs, hp, _⟩ := id hP
  obtain ⟨dx', a', b', xs', hq, _⟩ := id hQ
  refine ⟨p, dx, _, _, rfl, hp, TE.ty cl hq, first_self, p, .ref q, cs, fs, rfl, hP, .inl ⟨q, cs, fs, rfl, hQ, _, rfl, ?_⟩⟩
  rw [show decide (cs = cs ∧ fs = fs) = true from by simp]
  exact k
/-! ### the law of k38: its lambdas -/
theorem GoodB.rev {cs : List Int} {fs : List (List Tri)} (h : GoodB cs fs) : GoodB cs fs.reverse := by
  refine ⟨fun f hf => h.all f (List.mem_reverse.mp hf), List.pairwise_reverse.mpr (h.two.imp_of_mem fun {g f} hg hf e => ?_)⟩
  unfold okB at e ⊢
  rw [meetB_comm, barB_comm (h.all g hg).up (h.all f hf).up]
  exact e
theorem GoodF.wide {cs : List Int} {f : List Tri} (h : GoodF cs f) (x : Int) : GoodF (cs ++ [x]) f := by
  refine ⟨h.ne, fun t ht => ?_, h.up⟩
  have g := h.all t ht
  have p0 := g.p0
  have p1 := g.p1
  refine ⟨g.p0, by rw [List.length_append]; show t.1 < ((cs.length + 1 : Nat) : Int); omega, g.n0, ?_, g.d0, g.d1⟩
  have n1 := g.n1
  rw [List.getD_eq_getElem?_getD] at n1 ⊢
  rw [List.getElem?_append_left (by omega)]
  exact n1
theorem GoodB.wide {cs : List Int} {fs : List (List Tri)} (h : GoodB cs fs) (x : Int) : GoodB (cs ++ [x]) fs := ⟨fun f hf => (h.all f hf).wide x, h.two⟩
abbrev sLaw : Stmt := topS 75
abbrev nLaw : List Str := ["_law_script", "_law_bag_here", "_law_colours", "_law_shapes_here", "_law_book", "_law_row_here", "_law_late", "_law_others", "_law_other", "_law_doors", "_law_words", "_law_one", "_law_two", "_law_door"]
theorem scLaw : FnScope nLaw ["_law_script"] (defScope sLaw) := ⟨rfl, rfl, rfl, by decide +kernel, rfl, by decide +kernel, by decide +kernel⟩
def qnL : Str := (envOfC "law" (defScope sLaw) 0 0 .none).qual ++ "<lambda>"
def tabLM (pL pM : Addr) : List (Addr × Str) := [(pL, qnL), (pM, qnM)]
theorem tabLM_MT {pL pM : Addr} (h : pL ≠ pM) : MT pM (tabLM pL pM) := ⟨List.mem_cons_of_mem _ (List.mem_singleton.mpr rfl), fun p hp e => by
  rcases List.mem_cons.mp hp with z | z
  · rw [z] at e
    exact absurd e h
  · rw [List.mem_singleton.mp z]⟩
theorem tabLM_LT {pL pM : Addr} (h : pL ≠ pM) : ∀ p ∈ tabLM pL pM, p.1 = pL → p.2 = qnL := fun p hp e => by
  rcases List.mem_cons.mp hp with z | z
  · rw [z]
  · rw [List.mem_singleton.mp z] at e
    exact absurd e.symm h
def spLaw (K : PySem.W.Frag) (pL pM : Addr) : Sp := fun vs H Q _ => ∃ (a : Addr) (ns : List Int), vs = [.ref a] ∧ SqL K H a (ns.map V.int) ∧ ns.length ≤ 63 ∧ H pL = some (.tbl #[]) ∧ H pM = some (.tbl #[]) ∧ ∀ H', Q (.bl true) H'
/-- the statements of the for over the books -/
def forB : List Stmt := match ((defBody sLaw)[4]? : Option Stmt) with
  | some (Stmt.For _ _ b _ _) => b
  | _ => []
def doorE (j : Nat) : Expr := match ((if j < 3 then forB[1]? else forB[2]?) : Option Stmt) with
  | some (Stmt.Assign _ (Expr.List es _) _) => es.getD j (.Constant .none 0 ⟨0, 0, 0, 0⟩)
  | some (Stmt.Assign _ (Expr.BinOp _ _ (Expr.List es _) _) _) => es.getD (j - 3) (.Constant .none 0 ⟨0, 0, 0, 0⟩)
  | _ => .Constant .none 0 ⟨0, 0, 0, 0⟩
def doorA (j : Nat) : Arguments := match doorE j with
  | .Lambda a _ _ _ => a
  | _ => ⟨[], [], none, [], [], none, []⟩
def doorB (j : Nat) : Expr := match doorE j with
  | .Lambda _ b _ _ => b
  | e => e
def doorS (j : Nat) : Scope := match doorE j with
  | .Lambda _ _ s _ => s
  | _ => defScope sLaw
def doorP : Nat → List Str
  | 0 | 3 => []
  | 1 | 4 => ["_law_a"]
  | _ => ["_law_a", "_law_b"]
abbrev doorF : List Str := ["_law_one", "_law_two"]
/-- what the doors promise -/
def doorSp (K : PySem.W.Frag) (C CH CO CB CX pM : Addr) : Nat → Sp
  | 0 => spHPlus K C CH CO
  | 1 => spHBeg K C CH CO
  | 2 => spHLess K C CH CO CB
  | 3 => spHMeet K C CH CO pM
  | 4 => spHJoin K C CH CO CX pM
  | _ => spHPtd K C CH CO
def doorM : Nat → Str
  | 0 => "plus"
  | 1 => "begins"
  | 2 => "less"
  | 3 => "meet"
  | 4 => "joined"
  | _ => "parted"
def doorT (K : PySem.W.Frag) (C CH CO CB CX pM : Addr) (j : Nat) : XK → TE := fun E => tMeth CH (doorM j) (doorSp K C CH CO CB CX pM j) [] E (tVar (doorP j).length) (tCons (tVar ((doorP j).length + 1)) tNil)
def doorD (K : PySem.W.Frag) (C CH CO CB CX pM : Addr) (cells : List (Str × Addr)) (j : Nat) : LamD :=
  ⟨fun c' dV => ⟨qnL, doorA j, doorB j, doorS j, cloFrom cells (doorS j).names [], c', dV⟩, doorP j, doorF, (doorP j).map fun _ => 0, doorT K C CH CO CB CX pM j⟩
section
open LamX NdefX
theorem door_ok {X : Cx} {C CH CO CB CX pM : Addr} {fM : Nat → Addr} {fdM : Nat → FuncData} {k : Nat} {pins0 : List (Addr × Obj)} {σ0 : L2.St} {H0 : Hp} {s0 : Shared} {scope : Scope} {ce : Env} {fp : List Addr} (hsc : X.env.scope = defScope sLaw) (hN : X.N = nLaw) (I0 : Inv X pins0 σ0 H0 s0) (hfp : ∀ b ∈ fp, FpOk X pins0 H0 b)
    (T : HpTxt X.K X.mg CH) (bM : ∀ j, j < 6 → L2.Binds X.K (fdM j) ["self", "other"] []) (mM : ∀ j, j < 6 → Meth X.K CH (doorM j) (fM j)) (G : ∀ j, j < 6 → FnOk X.prog X.w X.K X.mg X.base (L2.CX X.prog X.w) k (fM j) (fdM j) ["self", "other"] (doorSp X.K C CH CO CB CX pM j)) :
    ∀ j, j < 6 → LamK (X.blk s0 H0 scope ce fp) k qnL (doorD X.K C CH CO CB CX pM X.env.cells j) ([11, 12].map (slotAt σ0)) := by
  intro j hj
  match j, hj with
  | 0, _ =>
    refine ⟨fun _ _ => nscope_by (N := doorP 0 ++ doorF) (ps := doorP 0) (fr := doorF) (sc := doorS 0) (by decide +kernel), fun _ _ => rfl, fun _ _ => rfl, fun _ _ => rfl, .inl ⟨rfl, fun _ _ _ _ => rfl⟩, rfl, fun c' dV pins σ H s I => cells_blk (lsc := doorS 0) (fr := doorF) I0 hfp (by rw [hsc]; exact ndef_free (sc := defScope sLaw) (nsc := doorS 0) (fr := doorF) (by decide +kernel)) (ndef_fr (sc := defScope sLaw) (nsc := doorS 0) (by decide +kernel)) (by rw [hN]; rfl) I, fun c' dV f A outer s H E hr2 => ?_⟩
    exact pe_meth (pv 0) T.cl (mM 0 (by decide)) (G 0 (by decide)) hr2 (bM 0 (by decide)) .nil (passes_call (takes_of rfl rfl rfl rfl) (fun _ _ _ _ h => h)) (pa_cons (pv 1) pa_nil)
  | 1, _ =>
    refine ⟨fun _ _ => nscope_by (N := doorP 1 ++ doorF) (ps := doorP 1) (fr := doorF) (sc := doorS 1) (by decide +kernel), fun _ _ => rfl, fun _ _ => rfl, fun _ _ => rfl, .inr ⟨fun z => (nomatch z), fun c' dV doc pm ctv us hl => match us, hl with | [_], _ => ⟨_, rfl, rfl⟩⟩, rfl, fun c' dV pins σ H s I => cells_blk (lsc := doorS 1) (fr := doorF) I0 hfp (by rw [hsc]; exact ndef_free (sc := defScope sLaw) (nsc := doorS 1) (fr := doorF) (by decide +kernel)) (ndef_fr (sc := defScope sLaw) (nsc := doorS 1) (by decide +kernel)) (by rw [hN]; rfl) I, fun c' dV f A outer s H E hr2 => ?_⟩
    exact pe_meth (pv 1) T.cl (mM 1 (by decide)) (G 1 (by decide)) hr2 (bM 1 (by decide)) .nil (passes_call (takes_of rfl rfl rfl rfl) (fun _ _ _ _ h => h)) (pa_cons (pv 2) pa_nil)
  | 2, _ =>
    refine ⟨fun _ _ => nscope_by (N := doorP 2 ++ doorF) (ps := doorP 2) (fr := doorF) (sc := doorS 2) (by decide +kernel), fun _ _ => rfl, fun _ _ => rfl, fun _ _ => rfl, .inr ⟨fun z => (nomatch z), fun c' dV doc pm ctv us hl => match us, hl with | [_, _], _ => ⟨_, rfl, rfl⟩⟩, rfl, fun c' dV pins σ H s I => cells_blk (lsc := doorS 2) (fr := doorF) I0 hfp (by rw [hsc]; exact ndef_free (sc := defScope sLaw) (nsc := doorS 2) (fr := doorF) (by decide +kernel)) (ndef_fr (sc := defScope sLaw) (nsc := doorS 2) (by decide +kernel)) (by rw [hN]; rfl) I, fun c' dV f A outer s H E hr2 => ?_⟩
    exact pe_meth (pv 2) T.cl (mM 2 (by decide)) (G 2 (by decide)) hr2 (bM 2 (by decide)) .nil (passes_call (takes_of rfl rfl rfl rfl) (fun _ _ _ _ h => h)) (pa_cons (pv 3) pa_nil)
  | 3, _ =>
    refine ⟨fun _ _ => nscope_by (N := doorP 3 ++ doorF) (ps := doorP 3) (fr := doorF) (sc := doorS 3) (by decide +kernel), fun _ _ => rfl, fun _ _ => rfl, fun _ _ => rfl, .inl ⟨rfl, fun _ _ _ _ => rfl⟩, rfl, fun c' dV pins σ H s I => cells_blk (lsc := doorS 3) (fr := doorF) I0 hfp (by rw [hsc]; exact ndef_free (sc := defScope sLaw) (nsc := doorS 3) (fr := doorF) (by decide +kernel)) (ndef_fr (sc := defScope sLaw) (nsc := doorS 3) (by decide +kernel)) (by rw [hN]; rfl) I, fun c' dV f A outer s H E hr2 => ?_⟩
    exact pe_meth (pv 0) T.cl (mM 3 (by decide)) (G 3 (by decide)) hr2 (bM 3 (by decide)) .nil (passes_call (takes_of rfl rfl rfl rfl) (fun _ _ _ _ h => h)) (pa_cons (pv 1) pa_nil)
  | 4, _ =>
    refine ⟨fun _ _ => nscope_by (N := doorP 4 ++ doorF) (ps := doorP 4) (fr := doorF) (sc := doorS 4) (by decide +kernel), fun _ _ => rfl, fun _ _ => rfl, fun _ _ => rfl, .inr ⟨fun z => (nomatch z), fun c' dV doc pm ctv us hl => match us, hl with | [_], _ => ⟨_, rfl, rfl⟩⟩, rfl, fun c' dV pins σ H s I => cells_blk (lsc := doorS 4) (fr := doorF) I0 hfp (by rw [hsc]; exact ndef_free (sc := defScope sLaw) (nsc := doorS 4) (fr := doorF) (by decide +kernel)) (ndef_fr (sc := defScope sLaw) (nsc := doorS 4) (by decide +kernel)) (by rw [hN]; rfl) I, fun c' dV f A outer s H E hr2 => ?_⟩
    exact pe_meth (pv 1) T.cl (mM 4 (by decide)) (G 4 (by decide)) hr2 (bM 4 (by decide)) .nil (passes_call (takes_of rfl rfl rfl rfl) (fun _ _ _ _ h => h)) (pa_cons (pv 2) pa_nil)
  | 5, _ =>
    refine ⟨fun _ _ => nscope_by (N := doorP 5 ++ doorF) (ps := doorP 5) (fr := doorF) (sc := doorS 5) (by decide +kernel), fun _ _ => rfl, fun _ _ => rfl, fun _ _ => rfl, .inr ⟨fun z => (nomatch z), fun c' dV doc pm ctv us hl => match us, hl with | [_, _], _ => ⟨_, rfl, rfl⟩⟩, rfl, fun c' dV pins σ H s I => cells_blk (lsc := doorS 5) (fr := doorF) I0 hfp (by rw [hsc]; exact ndef_free (sc := defScope sLaw) (nsc := doorS 5) (fr := doorF) (by decide +kernel)) (ndef_fr (sc := defScope sLaw) (nsc := doorS 5) (by decide +kernel)) (by rw [hN]; rfl) I, fun c' dV f A outer s H E hr2 => ?_⟩
    exact pe_meth (pv 2) T.cl (mM 5 (by decide)) (G 5 (by decide)) hr2 (bM 5 (by decide)) .nil (passes_call (takes_of rfl rfl rfl rfl) (fun _ _ _ _ h => h)) (pa_cons (pv 3) pa_nil)
end
/-! ### the law of k38 -/
/-- a book of as many figures -/
structure OtherB (K : PySem.W.Frag) (C : Addr) (n : Nat) (H : Hp) (o : Addr) (cs : List Int) (fs : List (List Tri)) : Prop where
  bk : BookAt K C H o cs fs
  gd : ∀ f ∈ fs, GoodF cs f
  cl : cs.length ≤ 100
  ln : fs.length = n
theorem OtherB.ext {K : PySem.W.Frag} {C : Addr} {n : Nat} {H H' : Hp} {o : Addr} {cs : List Int} {fs : List (List Tri)} (h : OtherB K C n H o cs fs) (e : LamX.ExtN H H') : OtherB K C n H' o cs fs := ⟨h.bk.ext e, h.gd, h.cl, h.ln⟩
/-- the scene, the rows, the list of books -/
structure S8 (K : PySem.W.Frag) (C b c d e x r l g : Addr) (cs : List Int) (xs : List V) (fs : List (List Tri)) (row late : List Int) (os : List V) (H : Hp) : Prop where
  bag : Bag H b c
  sc : Sc K C b d e x cs xs fs H
  hr : H r = some (.lst (row.map V.int))
  hl : H l = some (.lst (late.map V.int))
  hg : H g = some (.lst os)
  ob : ∀ v ∈ os, ∃ (o : Addr) (cs' : List Int) (fs' : List (List Tri)), v = .ref o ∧ OtherB K C fs.length H o cs' fs'
theorem S8.ext {K : PySem.W.Frag} {C b c d e x r l g : Addr} {cs : List Int} {xs : List V} {fs : List (List Tri)} {row late : List Int} {os : List V} {H H' : Hp} (h : S8 K C b c d e x r l g cs xs fs row late os H) (s : LamX.ExtN H H') : S8 K C b c d e x r l g cs xs fs row late os H' :=
  ⟨bag_ext h.bag s, h.sc.ext s, s _ _ h.hr (fun _ z => nomatch z), s _ _ h.hl (fun _ z => nomatch z), s _ _ h.hg (fun _ z => nomatch z), fun v hv => by
    obtain ⟨o, cs', fs', e1, e2⟩ := h.ob v hv
    exact ⟨o, cs', fs', e1, e2.ext s⟩⟩
theorem lk_uno {K : PySem.W.Frag} {H : Hp} {n : Nat} {a b : Addr} {z : Str} (h1 : SqT K H a [.str z]) (h2 : SqT K H b [.str z]) : Lk K H (n + 2) (.ref a) (.ref b) :=
  lk_seq (.inr ⟨h1, h2⟩) rfl (show (1 : Nat) ≤ 1000 by decide) fun i x y hx hy => by
    match i, hx, hy with
    | 0, hx, hy =>
      obtain rfl := Option.some.inj hx
      obtain rfl := Option.some.inj hy
      exact lk_str z
/-- what the doors told: all that they are of other books, or none of them -/
def WordsAt (H : Hp) (eq : Prop) (ts : List Addr) : Prop := ∀ (n : Nat) (t : Addr), ts[n]? = some t → ∃ (z : Str) (ws : List V), H t = some (.tup (.str z :: ws)) ∧ (¬ eq → z = "OtherBook" ∧ ws = []) ∧ (eq → z ≠ "OtherBook" ∧ (n < 2 → z = "told"))
theorem All2.rev {β : Type} {R : V → β → Prop} : ∀ {as : List V} {bs : List β}, All2 R as bs → All2 R as.reverse bs.reverse
  | [], [], _ => True.intro
  | [], _ :: _, h => h.elim
  | _ :: _, [], h => h.elim
  | _ :: _, _ :: _, h => by
    rw [List.reverse_cons, List.reverse_cons]
    exact All2.snoc h.1 (All2.rev h.2)
/-- amid a turn -/
structure T8 (K : PySem.W.Frag) (C CH b c d e x r l g o p p2 : Addr) (cs : List Int) (xs : List V) (fs : List (List Tri)) (row late : List Int) (os : List V) (cs' : List Int) (fs' : List (List Tri)) (H : Hp) : Prop where
  s8 : S8 K C b c d e x r l g cs xs fs row late os H
  ot : OtherB K C fs.length H o cs' fs'
  P : HpOf K C CH H p x cs fs row
  Q : HpOf K C CH H p2 o cs' fs' late
theorem T8.ext {K : PySem.W.Frag} {C CH b c d e x r l g o p p2 : Addr} {cs : List Int} {xs : List V} {fs : List (List Tri)} {row late : List Int} {os : List V} {cs' : List Int} {fs' : List (List Tri)} {H H' : Hp} (h : T8 K C CH b c d e x r l g o p p2 cs xs fs row late os cs' fs' H) (s : LamX.ExtN H H') : T8 K C CH b c d e x r l g o p p2 cs xs fs row late os cs' fs' H' :=
  ⟨h.s8.ext s, h.ot.ext s, h.P.ext s, h.Q.ext s⟩
def MidA (K : PySem.W.Frag) (C CH CO CB CX pL pM : Addr) (cells : List (Str × Addr)) (b c d e x r l g : Addr) (cs : List Int) (xs : List V) (fs : List (List Tri)) (row late : List Int) (os : List V) (σ : L2.St) (H : Hp) : Prop := ∃ (y0 y7 y10 y13 : Option V) (o dr p p2 : Addr) (cs' : List Int) (fs' : List (List Tri)) (F A : Nat → Addr) (dV : Nat → Value),
  σ = [y0, some (.ref b), some (.ref d), some (.ref e), some (.ref x), some (.ref r), some (.ref l), y7, some (.ref o), some (.ref dr), y10, some (.ref p), some (.ref p2), y13] ∧ LamX.Tabs (tabLM pL pM) H ∧ T8 K C CH b c d e x r l g o p p2 cs xs fs row late os cs' fs' H ∧
  H dr = some (.lst [V.ref (F 0), V.ref (F 1), V.ref (F 2), V.ref (F 3), V.ref (F 4), V.ref (F 5)]) ∧ ∀ j, j < 6 → H (F j) = some (LamO (F j) ((doorD K C CH CO CB CX pM cells j).lf (A j) (dV j))) ∧ H (A j) = some (LamX.CodeO (A j) qnL) ∧ Dflts H (dV j) ((doorP j).map fun _ => 0)
def MidB (K : PySem.W.Frag) (C CH pL pM b c d e x r l g : Addr) (cs : List Int) (xs : List V) (fs : List (List Tri)) (row late : List Int) (os : List V) (σ : L2.St) (H : Hp) : Prop := ∃ (y0 y7 y9 y13 : Option V) (o wd p p2 t0 t1 t2 t3 t4 t5 : Addr) (cs' : List Int) (fs' : List (List Tri)),
  σ = [y0, some (.ref b), some (.ref d), some (.ref e), some (.ref x), some (.ref r), some (.ref l), y7, some (.ref o), y9, some (.ref wd), some (.ref p), some (.ref p2), y13] ∧ LamX.Tabs (tabLM pL pM) H ∧ T8 K C CH b c d e x r l g o p p2 cs xs fs row late os cs' fs' H ∧
  H wd = some (.lst [V.ref t0, V.ref t1, V.ref t2, V.ref t3, V.ref t4, V.ref t5]) ∧ WordsAt H (cs = cs' ∧ fs = fs') [t0, t1, t2, t3, t4, t5]
def MidC (K : PySem.W.Frag) (C CH pL pM b c d e x r l g : Addr) (cs : List Int) (xs : List V) (fs : List (List Tri)) (row late : List Int) (os : List V) (σ : L2.St) (H : Hp) : Prop := ∃ (y0 y7 y9 y10 y13 : Option V) (o p p2 : Addr) (cs' : List Int) (fs' : List (List Tri)),
  σ = [y0, some (.ref b), some (.ref d), some (.ref e), some (.ref x), some (.ref r), some (.ref l), y7, some (.ref o), y9, y10, some (.ref p), some (.ref p2), y13] ∧ LamX.Tabs (tabLM pL pM) H ∧ T8 K C CH b c d e x r l g o p p2 cs xs fs row late os cs' fs' H
theorem tabs_lst {T : List (Addr × Str)} {H H' : Hp} {b : Addr} {l : List V} (t : LamX.Tabs T H) (hl : H b = some (.lst l)) (o : Off b H H') : LamX.Tabs T H' := fun p hp => by
  obtain ⟨ps, h1, h2, h3⟩ := t p hp
  refine ⟨ps, o _ _ (fun z => by rw [z, hl] at h1; cases h1) h1, h2, fun pos cv hc => ?_⟩
  obtain ⟨c', e1, e2⟩ := h3 pos cv hc
  exact ⟨c', e1, o _ _ (fun z => by rw [z, hl] at e2; unfold LamX.CodeO at e2; cases e2) e2⟩
section
variable {P : Program} {w : World} {K : PySem.W.Frag} {mg : Str → Option Value} {base : Heap}
set_option maxHeartbeats 0 in
theorem ok_law38 {f C CH fB fSc fR fJ fI fHI fBk fBE fTr fK cL pL pM : Addr} {fdB fdSc fdR fdJ fdI fdHI fdBk fdBE fdTr fdK : FuncData} {fM : Nat → Addr} {fdM : Nat → FuncData} {gI : List Value → List Value → List Value} {cm : Nat → Addr} {oc kV doc pm ct : Value} {od an : Option Addr} {osl : Array (Option Value)}
    (lk : K.lookup f = some ⟨oc, od, .func (PySem.W.fnOf "law" "law" (defArgs sLaw) (defBody sLaw) (defScope sLaw) .none kV doc pm an (.ref cL) ct), osl⟩) (hcd : PySem.W.codeIn K (.ref cL) "law" = true) (tb : LamX.TabB base mg cL pL) (hLM : pL ≠ pM)
    (T : HpTxt K mg CH) (TB : BkTxt K mg C)
    (FB : Fun K "_law_bag" "_law_bag" sBag fB fdB) (bB : Binds K fdB ["_law_script"] []) (gB : mg "_law_bag" = some (.ref fB)) (GB : FnOk P w K mg base CX0 12 fB fdB ["_law_script"] (spBag K))
    (FSc : Fun K "_law_heap_scene" "_law_heap_scene" sScene fSc fdSc) (bSc : Binds K fdSc ["_law_bag_here", "_law_pads_here", "_law_my_figures"] []) (gSc : mg "_law_heap_scene" = some (.ref fSc)) (GSc : FnOk P w K mg base CX0 12 fSc fdSc ["_law_bag_here", "_law_pads_here", "_law_my_figures"] (spScene K C))
    (FR : Fun K "_law_row" "_law_row" sLRow fR fdR) (bR : Binds K fdR ["_law_bag_here", "_law_shapes_here", "_law_most"] []) (gR : mg "_law_row" = some (.ref fR)) (GR : FnOk P w K mg base CX0 12 fR fdR ["_law_bag_here", "_law_shapes_here", "_law_most"] spLRow)
    (MJ : Mk K C fJ) (kJ : KBn K fdJ ["self", "colours", "figures"] 2 ["figures"] gI (fun vs zs => vs ++ zs)) (GJ : FnOk P w K mg base CX0 11 fJ fdJ ["self", "colours", "figures"] (spInit K C))
    (MI : Mk K CH fI) (GI : FnOk P w K mg base CX0 11 fI fdI ["self", "book", "row"] (spHInitC K C CH)) (bI : Binds K fdI ["self", "book", "row"] [])
    (FHI : Fun K "_law_heap_is" "_law_heap_is" sHIs fHI fdHI) (bHI : Binds K fdHI ["_law_heap", "_law_colours", "_law_shapes_here", "_law_row_here"] []) (gHI : mg "_law_heap_is" = some (.ref fHI)) (GHI : FnOk P w K mg base CX0 12 fHI fdHI ["_law_heap", "_law_colours", "_law_shapes_here", "_law_row_here"] (spHIs K C CH))
    (bBk : Binds K fdBk ["self"] []) (mBk : Meth K CH "book" fBk) (GBk : FnOk P w K mg base CX0 12 fBk fdBk ["self"] (spHBook K CH))
    (TBE : ClsE K C fBE) (bBE : Binds K fdBE ["self", "other"] []) (GBE : FnOk P w K mg base CX0 11 fBE fdBE ["self", "other"] (spBEq K C))
    (bM : ∀ j, j < 6 → Binds K (fdM j) ["self", "other"] []) (mM : ∀ j, j < 6 → Meth K CH (doorM j) (fM j)) (GM : ∀ j, j < 6 → FnOk P w K mg base (L2.CX P w) 11 (fM j) (fdM j) ["self", "other"] (doorSp K C CH (cm 7) (cm 17) (cm 18) pM j))
    (FTr : Fun K "_law_tried" "_law_tried" sTried fTr fdTr) (bTr : Binds K fdTr ["_law_act"] []) (gTr : mg "_law_tried" = some (.ref fTr))
    (FK : Fun K "_law_like" "_law_like" sLike fK fdK) (bK : Binds K fdK ["_law_one", "_law_due"] []) (gK : mg "_law_like" = some (.ref fK)) (GK0 : FnOk P w K mg base CX0 5 fK fdK ["_law_one", "_law_due"] (spLike K 5))
    (RT : RefsT K mg cm) :
    FnOk P w K mg base CX0 14 f (PySem.W.fnOf "law" "law" (defArgs sLaw) (defBody sLaw) (defScope sLaw) .none kV doc pm an (.ref cL) ct) ["_law_script"] (spLaw K pL pM) := by
  have GK := GK0.mono (show 5 ≤ 12 by decide)
  refine fn_of lk hcd scLaw (fun vs H Q E h => ?_) (fun A outer s H vs Q E hr h => ?_)
  · obtain ⟨a, ns, rfl, _⟩ := h
    rfl
  · obtain ⟨a, ns, rfl, hS, hlen, hPL, hPM, q⟩ := h
    have hmT : (pL, qnL) ∈ tabLM pL pM := List.mem_cons_self
    have huT := tabLM_LT hLM
    have hMT := tabLM_MT hLM
    have hr12 := hr.mono (show 12 ≤ 13 by decide)
    refine ⟨_, PSs.nox (pss_cons (ps_set (i := 1) scLaw.nd rfl (.inl rfl) (pe_call GB hr12 (by rfl) gB FB.kp bB .nil pass0 (pa_cons (pv 0) pa_nil)))
      (pss_cons (ps_asg (pe_call GSc hr12 (by rfl) gSc FSc.kp bSc .nil pass0 (pa_cons (pv 1) (pa_cons pe_int (pa_cons pe_int pa_nil)))) (pg_tup (by rfl) (pgs_cons (pg_name (i := 2) scLaw.nd rfl (.inl rfl)) (pgs_cons (pg_name (i := 3) scLaw.nd rfl (.inl rfl)) (pgs_cons (pg_name (i := 4) scLaw.nd rfl (.inl rfl)) pgs_nil)))))
      (pss_cons (ps_par (i := 5) (j := 6) (by rfl) scLaw.nd rfl rfl (by decide) rfl rfl (pa_cons (pe_call GR hr12 (by rfl) gR FR.kp bR .nil pass0 (pa_cons (pv 1) (pa_cons (pv 3) (pa_cons pe_int pa_nil)))) (pa_cons (pe_call GR hr12 (by rfl) gR FR.kp bR .nil pass0 (pa_cons (pv 1) (pa_cons (pv 3) (pa_cons pe_int pa_nil)))) pa_nil)) (by rfl))
      (pss_cons (ps_set (i := 7) scLaw.nd rfl (.inl rfl) (pe_lst (pa_cons (pe_makeK (n := 1) MJ GJ hr12 (by rfl) TB.mgC kJ pass0 (pa_cons (pv 2) pa_nil) (pk_cons (pe_op op_cat (pv 3) (pe_lst pa_nil)) pk_nil)) (pa_cons (pe_makeK (n := 1) MJ GJ hr12 (by rfl) TB.mgC kJ pass0 (pa_cons (pe_op op_cat (pv 2) (pe_lst (pa_cons pe_int pa_nil))) pa_nil) (pk_cons (pv 3) pk_nil)) pa_nil))))
      (pss_cons (ps_for PassesOwn.never rfl (pi_list (pe_op op_cat (pv 7) (pe_lst (pa_cons (pe_makeK (n := 1) MJ GJ hr12 (by rfl) TB.mgC kJ pass0 (pa_cons (pv 2) pa_nil) (pk_cons (pe_revL (pv 3)) pk_nil)) pa_nil)))) (pg_name (i := 8) scLaw.nd rfl (.inl rfl)) (pss_cons (ps_asg (pe_tup (pa_cons (pe_make MI GI hr12 (by rfl) T.mgC bI .nil pass0 (pa_cons (pv 4) (pa_cons (pv 5) pa_nil))) (pa_cons (pe_make MI GI hr12 (by rfl) T.mgC bI .nil pass0 (pa_cons (pv 8) (pa_cons (pv 6) pa_nil))) pa_nil))) (pg_tup (by rfl) (pgs_cons (pg_name (i := 11) scLaw.nd rfl (.inr rfl)) (pgs_cons (pg_name (i := 12) scLaw.nd rfl (.inr rfl)) pgs_nil))))
      (pss_cons (ps_set (i := 9) scLaw.nd rfl (.inl rfl) (pe_lst (pa_cons (pe_lamv0 (T := tabLM pL pM) tb rfl hmT huT (NdefX.ndef_free (sc := defScope sLaw) (fr := doorF) (by decide +kernel)) rfl) (pa_cons (pe_lamvD (T := tabLM pL pM) (ds := [0]) tb rfl hmT huT (NdefX.ndef_free (sc := defScope sLaw) (fr := doorF) (by decide +kernel)) rfl rfl (List.cons_ne_nil _ _) (by decide) ⟨pe_int, True.intro⟩) (pa_cons (pe_lamvD (T := tabLM pL pM) (ds := [0, 0]) tb rfl hmT huT (NdefX.ndef_free (sc := defScope sLaw) (fr := doorF) (by decide +kernel)) rfl rfl (List.cons_ne_nil _ _) (by decide) ⟨pe_int, pe_int, True.intro⟩) pa_nil)))))
      (C8.pss_cut (ps_set (i := 9) scLaw.nd rfl (.inl rfl) (pe_op op_cat (pv 9) (pe_lst (pa_cons (pe_lamv0 (T := tabLM pL pM) tb rfl hmT huT (NdefX.ndef_free (sc := defScope sLaw) (fr := doorF) (by decide +kernel)) rfl) (pa_cons (pe_lamvD (T := tabLM pL pM) (ds := [0]) tb rfl hmT huT (NdefX.ndef_free (sc := defScope sLaw) (fr := doorF) (by decide +kernel)) rfl rfl (List.cons_ne_nil _ _) (by decide) ⟨pe_int, True.intro⟩) (pa_cons (pe_lamvD (T := tabLM pL pM) (ds := [0, 0]) tb rfl hmT huT (NdefX.ndef_free (sc := defScope sLaw) (fr := doorF) (by decide +kernel)) rfl rfl (List.cons_ne_nil _ _) (by decide) ⟨pe_int, pe_int, True.intro⟩) pa_nil))))))
      (C8.pss_cut (ps_setLcI (i := 10) (own := [("_law_door", 13)]) (g := gName 13) (tt := tYes) (te := fun σ => tTriedV cm qnL 6 13 (doorD K C CH (cm 7) (cm 17) (cm 18) pM (envOfC "law" (defScope sLaw) s.heap.objs.size f (.ref cL)).cells) (fun _ => [11, 12].map (NdefX.slotAt σ))) rfl scLaw.nd rfl rfl (sw_true rfl rfl rfl (by decide +kernel)) (pi_list (pv 9)) (blkOk_by (own := [("_law_door", 13)]) (N := nLaw) (sc := defScope sLaw) (by decide +kernel)) (fun _ _ _ _ _ => pg_name (i := 13) scLaw.nd rfl (.inl rfl)) (fun _ _ _ _ _ => pts_nil) (fun _ _ _ _ _ _ _ I0 hfp => pe_triedV (k := 11) RT FTr gTr bTr hr (by rfl) rfl (.inl rfl) (door_ok rfl rfl I0 hfp T bM mM GM)))
      (C8.pss_cut (ps_if (pt_cmpR (op_neOwn TBE.toEqTxt GBE bBE pass0 hr12) (pv 4) (pv 8) (nomark _)) (pss_one (ps_if (pt_not (pt_val (pe_call GK hr12 (by rfl) gK FK.kp bK .nil pass0 (pa_cons (pv 10) (pa_cons (pe_op op_rep (pe_lst (pa_cons (pe_tup (pa_cons pe_str pa_nil)) pa_nil)) pe_int) pa_nil))))) (pss_one (ps_ret pe_bl)) pss_nil)) (pss_one (ps_if (PW.pt (pw_or (pt_cmpR (op_inW hr.units) (pe_tup (pa_cons pe_str pa_nil)) (pv 10) (by rfl)) (pw_or (pt_cmpR op_ne (pe_ix ix_tup (pe_ix ix_list (pv 10) pe_int (fun _ _ => rfl)) pe_int (fun _ _ => rfl)) pe_str (nomark _)) (pw_or1 (pt_cmpR op_ne (pe_ix ix_tup (pe_ix ix_list (pv 10) pe_int (fun _ _ => rfl)) pe_int (fun _ _ => rfl)) pe_str (nomark _)))))) (pss_one (ps_ret pe_bl)) pss_nil)))
      (pss_one (ps_if (PW.pt (pw_or (pt_not (pt_val (pe_call GHI hr12 (by rfl) gHI FHI.kp bHI .nil pass0 (pa_cons (pv 11) (pa_cons (pv 2) (pa_cons (pv 3) (pa_cons (pv 5) pa_nil))))))) (pw_or1 (pt_cmpR (op_neOwn TBE.toEqTxt GBE bBE pass0 hr12) (pe_meth0 (pv 12) T.cl mBk GBk hr12 bBk .nil pass0) (pv 8) (nomark _))))) (pss_one (ps_ret pe_bl)) pss_nil))))))))
      (pss_one (ps_ret pe_bl))))))), ?_⟩
    refine ⟨.ref a, rfl, a, ns, rfl, hS, hlen, fun H1 b c s1 hB _ => ?_⟩
    have hT1 : LamX.Tabs (tabLM pL pM) H1 := fun p hp => by
      rcases List.mem_cons.mp hp with z | z
      · rw [z]
        exact LamX.TabS.nil (s1 _ _ hPL)
      · rw [List.mem_singleton.mp z]
        exact LamX.TabS.nil (s1 _ _ hPM)
    refine ⟨.ref b, rfl, b, c, 4, 5, rfl, hB, by decide, by decide, by decide, by decide, fun H4 t d e x cs xs fs off4 hB4 ht S hc4 hf5 => ?_⟩
    have hT4 := tabs_off hT1 hB off4
    refine ⟨t, _, rfl, ht, rfl, _, _, rfl, _, _, rfl, _, _, rfl, rfl, ?_⟩
    have xl := S.xlen
    refine ⟨.ref b, rfl, .ref e, rfl, b, c, e, xs, 6, rfl, hB4, S.shps, S.eb, xl.1, by omega, by decide, fun H5 r row off5 hB5 nr rb hr5 hrl hrin => ?_⟩
    have hT5 := tabs_off hT4 hB4 off5
    have S5 := S.off hB4 off5
    have hri := S5.inF hrin
    refine ⟨.ref b, rfl, .ref e, rfl, b, c, e, xs, 6, rfl, hB5, S5.shps, S5.eb, xl.1, by omega, by decide, fun H6 l late off6 hB6 nl lb hl6 hll hlin => ?_⟩
    have hT6 := tabs_off hT5 hB5 off6
    have S6 := S5.off hB5 off6
    have hli := S6.inF hlin
    have hr6 := off6 _ _ rb hr5
    have hG := S6.good
    have gb := S6.gb
    have gc := S6.gc
    clear S S5 hB hB4 hB5 hT1 hT4 hT5 off4 off5 off6 ht s1 nr nl hr5 hrin hlin hS hPL hPM
    -- the other books
    refine ⟨_, _, rfl, .ref d, rfl, .ref e, rfl, Nat.zero_le _, fun z0 nz0 => ?_⟩
    have u0 := same_upd (o := .lst []) nz0
    refine ⟨e, z0, _, _, rfl, rfl, u0 _ _ S6.shps, upd_same, by rw [List.length_nil]; exact Nat.le_of_lt (small1000 (by omega)), fun e2 ne2 => ?_⟩
    rw [List.append_nil]
    have u1 := same_upd (o := .lst xs) ne2
    have s1 := u0.trans u1
    refine ⟨rfl, rfl, fun o1 dx1 nx1 ndx1 nxd1 => ?_⟩
    refine bmake (C := C) (fs := fs) (SqL.of (s1 _ _ S6.cols)) (SqL.of upd_same) (S6.figs.mono fun _ _ => FigT.ts (TS.of s1)) gc gb S6.len nx1 ndx1 nxd1 (fun H7 s7 hO1 => ⟨rfl, ?_⟩)
    have s17 := s1.trans s7
    refine ⟨.ref d, rfl, (show (1 : Nat) ≤ sizeLine by decide), fun z1 nz1 => ?_⟩
    have u2 := same_upd (o := .lst [V.int 2]) nz1
    refine ⟨d, z1, _, _, rfl, rfl, (s17.trans u2) _ _ S6.cols, upd_same, by rw [List.length_map]; exact Nat.le_of_lt (small1000 (show _ + 1 ≤ 1000 by omega)), fun d2 nd2 => ?_⟩
    have u3 := same_upd (o := .lst (cs.map V.int ++ [V.int 2])) nd2
    have s13 := (s17.trans u2).trans u3
    refine ⟨.ref e, rfl, rfl, rfl, fun o2 dx2 nx2 ndx2 nxd2 => ?_⟩
    have gc2 : GoodC (cs ++ [2]) := ⟨by rw [List.length_append]; show 1 ≤ cs.length + 1; omega, by rw [List.length_append]; show cs.length + 1 ≤ 6; omega, fun y hy => (List.mem_append.mp hy).elim (gc.2.2 y) fun z => by rw [List.mem_singleton.mp z]; decide⟩
    refine bmake (C := C) (cs := cs ++ [2]) (fs := fs) (SqL.of (by rw [upd_same, List.map_append]; rfl)) (SqL.of (s13 _ _ S6.shps)) (S6.figs.mono fun _ _ => FigT.ts (TS.of s13)) gc2 (gb.wide 2) S6.len nx2 ndx2 nxd2 (fun H8 s8 hO2 => ⟨rfl, ?_⟩)
    refine ⟨(show (2 : Nat) ≤ sizeLine by decide), fun g0 ng0 => ?_⟩
    have u9 := same_upd (o := .lst [V.ref o1, V.ref o2]) ng0
    have s19 := (s13.trans s8).trans u9
    -- the third
    refine ⟨.ref g0, rfl, .ref d, rfl, .ref e, rfl, e, _, rfl, SqL.of (s19 _ _ S6.shps), fun e3 ne3 => ?_⟩
    have u10 := same_upd (o := .lst xs.reverse) ne3
    have s110 := s19.trans u10
    refine ⟨rfl, rfl, fun o3 dx3 nx3 ndx3 nxd3 => ?_⟩
    refine bmake (C := C) (fs := fs.reverse) (SqL.of (s110 _ _ S6.cols)) (SqL.of upd_same) (All2.rev (S6.figs.mono fun _ _ => FigT.ts (TS.of s110))) gc gb.rev (by rw [List.length_reverse]; exact S6.len) nx3 ndx3 nxd3 (fun H11 s11 hO3 => ⟨rfl, (show (1 : Nat) ≤ sizeLine by decide), fun g1 ng1 => ?_⟩)
    have u12 := same_upd (o := .lst [V.ref o3]) ng1
    have sA := (u10.trans s11).trans u12
    refine ⟨g0, g1, _, _, rfl, rfl, sA _ _ upd_same, upd_same, (show (3 : Nat) ≤ sizeLine by decide), fun g ng => ?_⟩
    have u13 := same_upd (o := .lst ([V.ref o1, V.ref o2] ++ [V.ref o3])) ng
    have sB := u12.trans u13
    have hg13 : (upd (upd H11 g1 (.lst [V.ref o3])) g (.lst ([V.ref o1, V.ref o2] ++ [V.ref o3]))) g = some (.lst [V.ref o1, V.ref o2, V.ref o3]) := upd_same
    have sC := (s110.trans s11).trans sB
    have W : S8 K C b c d e x r l g cs xs fs row late [V.ref o1, V.ref o2, V.ref o3] (upd (upd H11 g1 (.lst [V.ref o3])) g (.lst ([V.ref o1, V.ref o2] ++ [V.ref o3]))) := by
      refine ⟨hB6.same sC, S6.same sC, sC _ _ hr6, sC _ _ hl6, hg13, fun v hv => ?_⟩
      rcases List.mem_cons.mp hv with rfl | hv
      · exact ⟨o1, cs, fs, rfl, hO1.same ((((u2.trans u3).trans s8).trans u9).trans ((u10.trans s11).trans sB)), hG, by omega, rfl⟩
      rcases List.mem_cons.mp hv with rfl | hv
      · exact ⟨o2, cs ++ [2], fs, rfl, hO2.same (u9.trans ((u10.trans s11).trans sB)), (gb.wide 2).all, by rw [List.length_append]; show cs.length + 1 ≤ 100; omega, rfl⟩
      rw [List.mem_singleton.mp hv]
      exact ⟨o3, cs, fs.reverse, rfl, hO3.same sB, gb.rev.all, by omega, List.length_reverse⟩
    have hT13 := hT6.ext sC
    generalize upd (upd H11 g1 (.lst [V.ref o3])) g (.lst ([V.ref o1, V.ref o2] ++ [V.ref o3])) = H13 at W hT13 ⊢
    clear hg13 sC sB sA u13 u12 s11 hO3 hO2 hO1 u10 s110 s19 u9 s8 u3 s13 u2 s17 s7 s1 u1 u0 nz0 ne2 nx1 ndx1 nxd1 nz1 nd2 nx2 ndx2 nxd2 ng0 ne3 nx3 ndx3 nxd3 ng1 ng S6 hB6 hT6 hr6 hl6 gc2
    refine ⟨g, rfl, ⟨_, SqL.of W.hg⟩, for_list (xs := [V.ref o1, V.ref o2, V.ref o3]) (fun i σ H' => ∃ (y0 y7 y8 y9 y10 y11 y12 y13 : Option V), σ = [y0, some (.ref b), some (.ref d), some (.ref e), some (.ref x), some (.ref r), some (.ref l), y7, y8, y9, y10, y11, y12, y13] ∧ LamX.Tabs (tabLM pL pM) H' ∧ S8 K C b c d e x r l g cs xs fs row late [V.ref o1, V.ref o2, V.ref o3] H') ⟨_, _, _, _, _, _, _, _, rfl, hT13, W⟩ (fun i σ H' _ ⟨_, _, _, _, _, _, _, _, _, _, W⟩ => SqL.of W.hg) ?_ ?_⟩
    · clear W hT13
      rintro i ov σ H14 hi ⟨y0, y7, y8, y9, y10, y11, y12, y13, rfl, hT, W⟩
      obtain ⟨o, cs', fs', rfl, hO⟩ := W.ob _ (List.mem_of_getElem? hi)
      generalize [V.ref o1, V.ref o2, V.ref o3] = os at W hi ⊢
      have hli' : ∀ z ∈ late, InF fs' z := fun z hz => by
        have := hli z hz
        unfold InF at this ⊢
        rw [hO.ln]
        exact this
      refine ⟨.ref x, rfl, .ref r, rfl, fun p dp np ndp npd => ?_⟩
      refine hmakeC (C := C) (cs := cs) (fs := fs) (row := row) W.sc.book hG (by omega) (.inl (SqL.of W.hr)) (by omega) hri np ndp npd (fun H15 s15 P15 => ⟨rfl, ?_⟩)
      have o15 := LamX.ExtN.of s15
      refine ⟨.ref o, rfl, .ref l, rfl, fun p2 dp2 np2 ndp2 npd2 => ?_⟩
      refine hmakeC (C := C) (cs := cs') (fs := fs') (row := late) (hO.bk.same s15) hO.gd hO.cl (.inl (SqL.of (s15 _ _ W.hl))) (by omega) hli' np2 ndp2 npd2 (fun H16 s16 P16 => ⟨rfl, (show (2 : Nat) ≤ sizeLine by decide), fun tq ntq => ?_⟩)
      have u17 := same_upd (o := .tup [V.ref p, V.ref p2]) ntq
      have s17 := (s15.trans s16).trans u17
      refine ⟨tq, _, rfl, SqT.of upd_same, rfl, _, _, rfl, _, _, rfl, rfl, ?_⟩
      have W17 : T8 K C CH b c d e x r l g o p p2 cs xs fs row late os cs' fs' (upd H16 tq (.tup [V.ref p, V.ref p2])) := ⟨W.ext (LamX.ExtN.of s17), hO.ext (LamX.ExtN.of s17), P15.same (s16.trans u17), P16.same u17⟩
      have hT17 := hT.ext s17
      generalize upd H16 tq (.tup [V.ref p, V.ref p2]) = H17 at W17 hT17 ⊢
      clear s17 u17 s16 s15 o15 P15 P16 ntq np ndp npd np2 ndp2 npd2 W hO hT
      -- doors
      refine ⟨hT17, fun f0 c0 v0 H18 e18 t18 m18 h18 k18 => ⟨t18, fun f1 c1 v1 H19 e19 t19 m19 h19 k19 => ⟨t19, fun f2 c2 v2 H20 e20 t20 m20 h20 k20 => ⟨(show (3 : Nat) ≤ sizeLine by decide), fun l3 nl3 => ?_⟩⟩⟩⟩
      have u21 := same_upd (o := .lst [V.ref f0, V.ref f1, V.ref f2]) nl3
      have o21 := LamX.ExtN.of u21
      refine ⟨MidA K C CH (cm 7) (cm 17) (cm 18) pL pM (envOfC "law" (defScope sLaw) s.heap.objs.size f (.ref cL)).cells b c d e x r l g cs xs fs row late os, ?_, ?_⟩
      · refine ⟨.ref l3, rfl, t20.ext u21, fun f3 c3 v3 H22 e22 t22 m22 h22 k22 => ⟨t22, fun f4 c4 v4 H23 e23 t23 m23 h23 k23 => ⟨t23, fun f5 c5 v5 H24 e24 t24 m24 h24 k24 => ⟨(show (3 : Nat) ≤ sizeLine by decide), fun l4 nl4 => ?_⟩⟩⟩⟩
        have u25 := same_upd (o := .lst [V.ref f3, V.ref f4, V.ref f5]) nl4
        have o25 := LamX.ExtN.of u25
        have x5 := o25
        have x4 := e24.trans x5
        have x3 := e23.trans x4
        have x21 := e22.trans x3
        refine ⟨l3, l4, _, _, rfl, rfl, x21 _ _ upd_same (fun _ z => nomatch z), upd_same, (show (6 : Nat) ≤ sizeLine by decide), fun dr ndr => ?_⟩
        have u26 := same_upd (o := .lst ([V.ref f0, V.ref f1, V.ref f2] ++ [V.ref f3, V.ref f4, V.ref f5])) ndr
        have o26 := LamX.ExtN.of u26
        have w5 := x5.trans o26
        have w4 := x4.trans o26
        have w3 := x3.trans o26
        have w2 := (o21.trans x21).trans o26
        have w1 := e20.trans w2
        have w0 := e19.trans w1
        refine ⟨_, _, _, _, o, dr, p, p2, cs', fs', fun j => [f0, f1, f2, f3, f4, f5].getD j 0, fun j => [c0, c1, c2, c3, c4, c5].getD j 0, fun j => [v0, v1, v2, v3, v4, v5].getD j .none, rfl, t24.ext (u25.trans u26), W17.ext (e18.trans w0), upd_same, fun j hj => ?_⟩
        match j, hj with
        | 0, _ => exact ⟨w0 _ _ h18 lamO_ne, w0 _ _ k18 LamX.codeO_ne, m18.ext w0⟩
        | 1, _ => exact ⟨w1 _ _ h19 lamO_ne, w1 _ _ k19 LamX.codeO_ne, m19.ext w1⟩
        | 2, _ => exact ⟨w2 _ _ h20 lamO_ne, w2 _ _ k20 LamX.codeO_ne, m20.ext w2⟩
        | 3, _ => exact ⟨w3 _ _ h22 lamO_ne, w3 _ _ k22 LamX.codeO_ne, m22.ext w3⟩
        | 4, _ => exact ⟨w4 _ _ h23 lamO_ne, w4 _ _ k23 LamX.codeO_ne, m23.ext w4⟩
        | 5, _ => exact ⟨w5 _ _ h24 lamO_ne, w5 _ _ k24 LamX.codeO_ne, m24.ext w5⟩
      clear W17 hT17 e18 t18 m18 h18 k18 e19 t19 m19 h19 k19 e20 t20 m20 h20 k20 u21 o21 nl3 hli'
      rintro σ H26 ⟨z0, z7, z10, z13, o, dr, p, p2, cs', fs', F, Ad, dV, rfl, hT26, W26, hdr, hdo⟩
      refine ⟨MidB K C CH pL pM b c d e x r l g cs xs fs row late os, ?_, ?_⟩
      · refine ⟨.ref dr, rfl, dr, rfl, ⟨_, SqL.of hdr⟩, fun D nD => ?_⟩
        refine lc_list (K := K) (a := dr) (xs := [V.ref (F 0), V.ref (F 1), V.ref (F 2), V.ref (F 3), V.ref (F 4), V.ref (F 5)]) (fun j H' => LamX.ExtN H26 H' ∧ LamX.Tabs (tabLM pL pM) H' ∧ ∃ ts : List Addr, H' D = some (.lst (ts.map V.ref)) ∧ ts.length = j ∧ WordsAt H' (cs = cs' ∧ fs = fs') ts) ⟨LamX.ExtN.of (same_upd nD), hT26.ext (same_upd nD), [], upd_same, rfl, fun n t h => (by simp at h)⟩ (fun j H' _ hP => SqL.of (hP.1 _ _ hdr (fun _ z => nomatch z))) (fun j y H' hy hP => ?_) (fun H27 hP => ?_)
        · obtain ⟨ex, tab, ts, hD, htl, hts⟩ := hP
          have hj6 : j < 6 := (List.getElem?_eq_some_iff.mp hy).1
          have fin : ∀ (H2 : Hp) (p3 : Addr) (z : Str) (ws : List V), LamX.ExtN H' H2 → LamX.Tabs (tabLM pL pM) H2 → H2 p3 = none → (¬ (cs = cs' ∧ fs = fs') → z = "OtherBook" ∧ ws = []) → (cs = cs' ∧ fs = fs' → z ≠ "OtherBook" ∧ (j < 2 → z = "told")) →
              ∃ acc, (upd H2 p3 (.tup (V.str z :: ws))) D = some (.lst acc) ∧ acc.length < sizeLine ∧ (LamX.ExtN H26 (upd (upd H2 p3 (.tup (V.str z :: ws))) D (.lst (acc ++ [.ref p3]))) ∧ LamX.Tabs (tabLM pL pM) (upd (upd H2 p3 (.tup (V.str z :: ws))) D (.lst (acc ++ [.ref p3]))) ∧ ∃ ts : List Addr, (upd (upd H2 p3 (.tup (V.str z :: ws))) D (.lst (acc ++ [.ref p3]))) D = some (.lst (ts.map V.ref)) ∧ ts.length = j + 1 ∧ WordsAt (upd (upd H2 p3 (.tup (V.str z :: ws))) D (.lst (acc ++ [.ref p3]))) (cs = cs' ∧ fs = fs') ts) := fun H2 p3 z ws e2 t2 n3 hne heq => by
            have u3 := same_upd (o := .tup (V.str z :: ws)) n3
            have hD2 := e2 _ _ hD (fun _ z => nomatch z)
            have hD3 := u3 _ _ hD2
            have nDp : D ≠ p3 := ne_of_none hD2 n3
            refine ⟨_, hD3, ?_, fun b' o' hb hn => ?_, tabs_lst (t2.ext u3) hD3 Off.upd, ts ++ [p3], by rw [upd_same, List.map_append]; rfl, by rw [List.length_append, htl]; rfl, fun n t h => ?_⟩
            · rw [List.length_map, htl]
              exact small1000 (by omega)
            · rw [upd_ne (ne_of_none hb nD)]
              exact u3 _ _ (e2 _ _ (ex _ _ hb hn) hn)
            · by_cases hn : n < ts.length
              · rw [List.getElem?_append_left hn] at h
                obtain ⟨z', ws', h1, h2, h3⟩ := hts n t h
                have ntD : t ≠ D := fun zz => by rw [zz, hD] at h1; cases h1
                exact ⟨z', ws', by rw [upd_ne ntD]; exact u3 _ _ (e2 _ _ h1 (fun _ zz => nomatch zz)), h2, h3⟩
              · rw [List.getElem?_append_right (by omega)] at h
                have en : n - ts.length = 0 := by
                  cases e0 : n - ts.length with
                  | zero => rfl
                  | succ m => rw [e0] at h; cases h
                rw [en] at h
                obtain rfl : p3 = t := Option.some.inj h
                have : n = j := by omega
                subst this
                exact ⟨z, ws, by rw [upd_ne nDp.symm, upd_same], hne, heq⟩
          have Wj := W26.ext ex
          obtain ⟨dxp, tp1, hp, _⟩ := id Wj.P.hp
          have hd := fun j hj => (⟨ex _ _ (hdo j hj).1 lamO_ne, ex _ _ (hdo j hj).2.1 LamX.codeO_ne, (hdo j hj).2.2.ext ex⟩ : H' (F j) = some (LamO (F j) ((doorD K C CH (cm 7) (cm 17) (cm 18) pM (envOfC "law" (defScope sLaw) s.heap.objs.size f (.ref cL)).cells j).lf (Ad j) (dV j))) ∧ H' (Ad j) = some (LamX.CodeO (Ad j) qnL) ∧ Dflts H' (dV j) ((doorP j).map fun _ => 0))
          have hj : j = 0 ∨ j = 1 ∨ j = 2 ∨ j = 3 ∨ j = 4 ∨ j = 5 := by omega
          rcases hj with rfl | rfl | rfl | rfl | rfl | rfl
          · obtain rfl := Option.some.inj hy
            obtain ⟨g1, g2, g3⟩ := hd 0 (by decide)
            refine ⟨rfl, yesT ⟨0, F 0, Ad 0, dV 0, by decide, rfl, g2, g1, g3, .ref p, rfl, p, dxp, _, rfl, hp, rfl, .ref p2, rfl, ?_⟩⟩
            exact ⟨p, p2, x, o, cs, cs', fs, fs', row, late, rfl, Wj.P, Wj.Q, by omega, (fun eqv H2 xz s2 nz Z => ⟨(show (2 : Nat) ≤ sizeLine by decide), fun tp ntp => fin H2 tp "told" [.ref xz] (LamX.ExtN.of s2) (tab.ext s2) ntp (fun ne => absurd eqv ne) (fun _ => ⟨by decide, fun _ => rfl⟩)⟩), fun ne dd H2 s2 hdd => ⟨7, [], dd, by decide, rfl, rfl, rfl, hdd, fun tp ntp => fin H2 tp "OtherBook" [] (LamX.ExtN.of s2) (tab.ext s2) ntp (fun _ => ⟨rfl, rfl⟩) (fun e => absurd e ne)⟩⟩
          · obtain rfl := Option.some.inj hy
            obtain ⟨g1, g2, g3⟩ := hd 1 (by decide)
            refine ⟨rfl, yesT ⟨1, F 1, Ad 1, dV 1, by decide, rfl, g2, g1, g3, .ref p, rfl, p, dxp, _, rfl, hp, rfl, .ref p2, rfl, ?_⟩⟩
            exact ⟨p, p2, x, o, cs, cs', fs, fs', row, late, rfl, Wj.P, Wj.Q, by omega, by omega, (fun eqv H2 s2 => ⟨(show (2 : Nat) ≤ sizeLine by decide), fun tp ntp => fin H2 tp "told" [.bl _] (LamX.ExtN.of s2) (tab.ext s2) ntp (fun ne => absurd eqv ne) (fun _ => ⟨by decide, fun _ => rfl⟩)⟩), fun ne dd H2 s2 hdd => ⟨7, [], dd, by decide, rfl, rfl, rfl, hdd, fun tp ntp => fin H2 tp "OtherBook" [] (LamX.ExtN.of s2) (tab.ext s2) ntp (fun _ => ⟨rfl, rfl⟩) (fun e => absurd e ne)⟩⟩
          · obtain rfl := Option.some.inj hy
            obtain ⟨g1, g2, g3⟩ := hd 2 (by decide)
            refine ⟨rfl, yesT ⟨2, F 2, Ad 2, dV 2, by decide, rfl, g2, g1, g3, .ref p, rfl, p, dxp, _, rfl, hp, rfl, .ref p2, rfl, ?_⟩⟩
            exact ⟨p, p2, x, o, cs, cs', fs, fs', row, late, rfl, Wj.P, Wj.Q, by omega, by omega, (fun eqv _ H2 xz s2 nz Z => ⟨(show (2 : Nat) ≤ sizeLine by decide), fun tp ntp => fin H2 tp "told" [.ref xz] (LamX.ExtN.of s2) (tab.ext s2) ntp (fun ne => absurd eqv ne) (fun _ => ⟨by decide, fun _ => rfl⟩)⟩), (fun eqv _ dd H2 s2 hdd => ⟨17, [], dd, by decide, rfl, rfl, rfl, hdd, fun tp ntp => fin H2 tp "NoBeginning" [] (LamX.ExtN.of s2) (tab.ext s2) ntp (fun ne => absurd eqv ne) (fun _ => ⟨by decide, fun z => absurd z (by decide)⟩)⟩), fun ne dd H2 s2 hdd => ⟨7, [], dd, by decide, rfl, rfl, rfl, hdd, fun tp ntp => fin H2 tp "OtherBook" [] (LamX.ExtN.of s2) (tab.ext s2) ntp (fun _ => ⟨rfl, rfl⟩) (fun e => absurd e ne)⟩⟩
          · obtain rfl := Option.some.inj hy
            obtain ⟨g1, g2, g3⟩ := hd 3 (by decide)
            refine ⟨rfl, yesT ⟨3, F 3, Ad 3, dV 3, by decide, rfl, g2, g1, g3, .ref p, rfl, p, dxp, _, rfl, hp, rfl, .ref p2, rfl, ?_⟩⟩
            exact ⟨tabLM pL pM, p, p2, x, o, cs, cs', fs, fs', row, late, rfl, hMT, tab, Wj.P, Wj.Q, by omega, by omega, (fun eqv H2 xz m e2 t2 _ _ Z => ⟨(show (2 : Nat) ≤ sizeLine by decide), fun tp ntp => fin H2 tp "told" [.ref xz] (e2) (t2) ntp (fun ne => absurd eqv ne) (fun _ => ⟨by decide, fun _ => rfl⟩)⟩), fun ne dd H2 s2 hdd => ⟨7, [], dd, by decide, rfl, rfl, rfl, hdd, fun tp ntp => fin H2 tp "OtherBook" [] (LamX.ExtN.of s2) (tab.ext s2) ntp (fun _ => ⟨rfl, rfl⟩) (fun e => absurd e ne)⟩⟩
          · obtain rfl := Option.some.inj hy
            obtain ⟨g1, g2, g3⟩ := hd 4 (by decide)
            refine ⟨rfl, yesT ⟨4, F 4, Ad 4, dV 4, by decide, rfl, g2, g1, g3, .ref p, rfl, p, dxp, _, rfl, hp, rfl, .ref p2, rfl, ?_⟩⟩
            exact ⟨tabLM pL pM, p, p2, x, o, cs, cs', fs, fs', row, late, rfl, hMT, tab, Wj.P, Wj.Q, by omega, (fun eqv => ⟨fun H2 xz M L R e2 t2 _ _ Z => ⟨(show (2 : Nat) ≤ sizeLine by decide), fun tp ntp => fin H2 tp "told" [.ref xz] (e2) (t2) ntp (fun ne => absurd eqv ne) (fun _ => ⟨by decide, fun _ => rfl⟩)⟩, fun H2 M L R z e2 t2 _ _ dd H3 s3 hdd => ⟨18, [.int (z : Nat)], dd, by decide, rfl, rfl, rfl, hdd, fun tp ntp => fin H3 tp "Barred" [.int (z : Nat)] (e2.trans (LamX.ExtN.of s3)) (t2.ext s3) ntp (fun ne => absurd eqv ne) (fun _ => ⟨by decide, fun z => absurd z (by decide)⟩)⟩⟩), fun ne dd H2 s2 hdd => ⟨7, [], dd, by decide, rfl, rfl, rfl, hdd, fun tp ntp => fin H2 tp "OtherBook" [] (LamX.ExtN.of s2) (tab.ext s2) ntp (fun _ => ⟨rfl, rfl⟩) (fun e => absurd e ne)⟩⟩
          · obtain rfl := Option.some.inj hy
            obtain ⟨g1, g2, g3⟩ := hd 5 (by decide)
            refine ⟨rfl, yesT ⟨5, F 5, Ad 5, dV 5, by decide, rfl, g2, g1, g3, .ref p, rfl, p, dxp, _, rfl, hp, rfl, .ref p2, rfl, ?_⟩⟩
            exact ⟨p, p2, x, o, cs, cs', fs, fs', row, late, rfl, Wj.P, Wj.Q, by omega, by omega, (fun eqv H2 v s2 hv => ⟨(show (2 : Nat) ≤ sizeLine by decide), fun tp ntp => fin H2 tp "told" [v] (LamX.ExtN.of s2) (tab.ext s2) ntp (fun ne => absurd eqv ne) (fun _ => ⟨by decide, fun _ => rfl⟩)⟩), fun ne dd H2 s2 hdd => ⟨7, [], dd, by decide, rfl, rfl, rfl, hdd, fun tp ntp => fin H2 tp "OtherBook" [] (LamX.ExtN.of s2) (tab.ext s2) ntp (fun _ => ⟨rfl, rfl⟩) (fun e => absurd e ne)⟩⟩
        · obtain ⟨ex, tab, ts, hD, htl, hts⟩ := hP
          match ts, htl with
          | [t0, t1, t2, t3, t4, t5], _ => exact ⟨_, _, _, _, o, D, p, p2, t0, t1, t2, t3, t4, t5, cs', fs', rfl, tab, W26.ext ex, hD, hts⟩
      clear W26 hT26 hdr hdo
      rintro σ H30 ⟨z0, z7, z9, z13, o, wd, p, p2, t0, t1, t2, t3, t4, t5, cs', fs', rfl, hT30, W30, hwd, hws⟩
      refine ⟨MidC K C CH pL pM b c d e x r l g cs xs fs row late os, ?_, ?_⟩
      · have hK := W30.s8.sc.book
        have hK' := W30.ot.bk
        obtain ⟨e1, e2, e3, e4, hbk, _⟩ := id hK
        obtain ⟨e1', e2', e3', e4', hbk', _⟩ := id hK'
        refine ⟨.ref x, rfl, .ref o, rfl, x, _, _, _, rfl, hbk, TBE.ty TB.cl hbk', first_self, x, .ref o, cs, fs, rfl, hK, .inl ⟨o, cs', fs', rfl, hK', _, rfl, _, rfl, ?_⟩⟩
        by_cases eqv : cs = cs' ∧ fs = fs'
        · rw [decide_eq_true eqv]
          refine iteF ⟨(show (1 : Nat) ≤ sizeLine by decide), fun tn ntn => ?_⟩
          have u31 := same_upd (o := .tup [V.str "OtherBook"]) ntn
          have o31 := LamX.ExtN.of u31
          obtain ⟨a0, b0, q0, _, r0⟩ := hws 0 t0 rfl
          obtain ⟨a1, b1, q1, _, r1⟩ := hws 1 t1 rfl
          have ea0 := (r0 eqv).2 (by decide)
          have ea1 := (r1 eqv).2 (by decide)
          subst ea0 ea1
          have hwd' := u31 _ _ hwd
          refine ⟨.ref wd, rfl, tn, wd, _, "OtherBook", rfl, rfl, SqT.of upd_same, SqL.of hwd', fun v hv => ?_, _, rfl, iteF ?_⟩
          · obtain ⟨n, hn⟩ := List.getElem?_of_mem hv
            have hn2 : ([t0, t1, t2, t3, t4, t5].map V.ref)[n]? = some v := hn
            rw [List.getElem?_map] at hn2
            cases ht : [t0, t1, t2, t3, t4, t5][n]? with
            | none => rw [ht] at hn2; cases hn2
            | some tt =>
              rw [ht] at hn2
              obtain ⟨z, ws, h1, _, h3⟩ := hws n tt ht
              exact ⟨tt, z, ws, (Option.some.inj hn2).symm, ne_of_none h1 ntn, SqT.of (u31 _ _ h1), (h3 eqv).1⟩
          refine ⟨.ref wd, rfl, wd, _, 0, .ref t0, rfl, rfl, SqL.of hwd', atI_nat (j := 0) rfl, t0, _, 0, .str "told", rfl, rfl, SqT.of (u31 _ _ q0), atI_nat (j := 0) rfl, rfl, _, rfl, ?_⟩
          rw [decide_eq_true rfl]
          refine iteF ⟨.ref wd, rfl, wd, _, 1, .ref t1, rfl, rfl, SqL.of hwd', atI_nat (j := 1) rfl, t1, _, 0, .str "told", rfl, rfl, SqT.of (u31 _ _ q1), atI_nat (j := 0) rfl, rfl, _, rfl, ?_⟩
          rw [decide_eq_true rfl]
          exact iteF ⟨_, _, _, _, _, o, p, p2, cs', fs', rfl, hT30.ext u31, W30.ext o31⟩
        · rw [decide_eq_false eqv]
          refine iteT ⟨.ref wd, rfl, (show (1 : Nat) ≤ sizeLine by decide), fun tn ntn => ?_⟩
          have u31 := same_upd (o := .tup [V.str "OtherBook"]) ntn
          refine ⟨(show (1 : Nat) ≤ sizeLine by decide), fun ln nln => ?_⟩
          have u32 := same_upd (o := .lst [V.ref tn]) nln
          refine ⟨ln, 6, [V.ref tn], rfl, rfl, upd_same, by decide, by decide, (show (6 : Nat) ≤ sizeLine by decide), fun l6 nl6 => ?_⟩
          have u33 := same_upd (o := .lst (List.replicate (6 : Int).toNat [V.ref tn]).flatten) nl6
          have s33 := (u31.trans u32).trans u33
          refine ⟨_, _, rfl, lk_seq (n := 4) (.inl ⟨SqL.of (s33 _ _ hwd), SqL.of (xs := [V.ref tn, V.ref tn, V.ref tn, V.ref tn, V.ref tn, V.ref tn]) upd_same⟩) rfl (show (6 : Nat) ≤ 1000 by decide) (fun n x' y' hx hy => ?_), fun H34 s34 => ⟨_, rfl, iteF ?_⟩⟩
          · have hn2 : ([t0, t1, t2, t3, t4, t5].map V.ref)[n]? = some x' := hx
            rw [List.getElem?_map] at hn2
            have hy2 : (List.replicate 6 (V.ref tn))[n]? = some y' := hy
            rw [List.getElem?_replicate] at hy2
            split at hy2
            · obtain rfl := Option.some.inj hy2
              cases ht : [t0, t1, t2, t3, t4, t5][n]? with
              | none => rw [ht] at hn2; cases hn2
              | some tt =>
                rw [ht] at hn2
                obtain rfl := Option.some.inj hn2
                obtain ⟨z, ws, h1, h2, _⟩ := hws n tt ht
                obtain ⟨rfl, rfl⟩ := h2 eqv
                exact lk_uno (n := 2) (z := "OtherBook") (SqT.of (s33 _ _ h1)) (SqT.of ((u32.trans u33) _ _ upd_same))
            · cases hy2
          · have s34' := s33.trans s34
            exact ⟨_, _, _, _, _, o, p, p2, cs', fs', rfl, hT30.ext s34', W30.ext (LamX.ExtN.of s34')⟩
      clear W30 hT30 hwd hws
      rintro σ H35 ⟨z0, z7, z9, z10, z13, o, p, p2, cs', fs', rfl, hT35, W35⟩
      refine ⟨.ref p, rfl, .ref d, rfl, .ref e, rfl, .ref r, rfl, p, d, e, r, b, x, x, cs, xs, fs, row, row, rfl, W35.s8.sc, W35.P, SqL.of W35.s8.hr, by omega, hri, rfl, fun H36 s36 => ⟨_, rfl, iteF ?_⟩⟩
      have W36 := W35.ext (LamX.ExtN.of s36)
      obtain ⟨dxq, tq1, hq, _⟩ := id W36.Q.hp
      refine ⟨.ref p2, rfl, p2, dxq, _, rfl, hq, rfl, p2, o, _, rfl, W36.Q.hp, .ref o, rfl, rd_beq TBE TB.cl W36.ot.bk W36.ot.bk ⟨_, rfl, iteF ?_⟩⟩
      exact ⟨_, _, _, _, _, _, _, _, rfl, hT35.ext s36, W36.s8⟩
    · rintro σ H' ⟨y0, y7, y8, y9, y10, y11, y12, y13, rfl, hT, W⟩
      exact q _
end
/-! ### the Hook over a written list of addresses -/
def lookL (as : List Addr) (fa : List He.Fa) (fn : List He.DefD) (tf : List He.Defn) (ex : PySem.W.Frag → Bool) (g : Addr → Option Obj) : He.AlX :=
  (He.obsT fa fn [] (He.frT g as), ex (He.frT g as) && He.tabsB g tf (He.frT g as))
theorem lookL_says {as : List Addr} {fa : List He.Fa} {fn : List He.DefD} {tf : List He.Defn} {ex : PySem.W.Frag → Bool} {w : World} {h : Heap} (e : lookL as fa fn tf ex h.get? = He.valX fn [] w) : He.SaysX fa fn [] tf ex w h (He.frT h.get? as) := by
  have a : _ = He.valT fn [] w := congrArg Prod.fst e
  obtain ⟨b, c⟩ := He.ba (show _ = true from congrArg Prod.snd e)
  exact { t := a, more := b, hd := fun p hp => (tabs_out c p hp).1, out := fun p hp => (tabs_out c p hp).2.1, empty := fun p hp => (tabs_out c p hp).2.2 }
def hookL (as : List Addr) (fa : List He.Fa) (fn : List He.DefD) (tf : List He.Defn) (ex : PySem.W.Frag → Bool) : PySem.W.Hook :=
  { α := He.AlX, obs := fun s => lookL as fa fn tf ex s.heap.get?, val := He.valX fn [], says := fun w h => ∃ K : PySem.W.Frag, K.In h ∧ He.SaysX fa fn [] tf ex w h K, of := fun w s e => ⟨_, He.frT_in, lookL_says e⟩,
    keeps := fun w h h' y k => by
      obtain ⟨K, i, c⟩ := y
      exact ⟨K, PySem.W.Frag.In.keeps i k, { t := c.t, more := c.more, hd := c.hd, out := c.out, empty := fun p hp => k _ _ (c.empty p hp) }⟩ }
theorem lookL_eq {as : List Addr} {fa : List He.Fa} {fn : List He.DefD} {tf : List He.Defn} {ex : PySem.W.Frag → Bool} (s : PySem.W.SharedT) : lookL as fa fn tf ex (HandSHeadRun.getT s) = (hookL as fa fn tf ex).obs s.abs := by
  rw [show HandSHeadRun.getT s = s.abs.heap.get? from funext (HandSHeadRun.getT_eq s)]
  rfl
theorem exk_NoFigure {P : Program} {w : World} {K : PySem.W.Frag} {mg : Str → Option Value} {base : Heap} {fd fdb : FuncData} (L : LeafK K "NoFigure" "Missing" ["figure"]) (F : Fun K "__init__" "NoFigure.__init__" sI_NoFigure (He.ma K (He.ga K "NoFigure") "__init__") fd)
    (Fb : FunD K "__init__" "Missing.__init__" (defArgs sI_Missing) (defBody sI_Missing) (defScope sI_Missing) [.str "Missing"] [] (He.ma K (He.ga K "Missing") "__init__") fdb) (mX : mg "NoFigure" = some (.ref (He.ga K "NoFigure"))) (mb : mg "Missing" = some (.ref (He.ga K "Missing"))) {j : Nat} (hj : 2 ≤ j) :
    ExcK P w K mg base j "NoFigure" (He.ga K "NoFigure") 1 (fun ws => [("figure", ws.getD 0 .non), ("word", .str "NoFigure")]) := by
  obtain ⟨ds, vd, bb⟩ := Fb.binds1 (ps := ["self", "word"]) 2 1 (List.cons_ne_nil _ _) rfl (fun T kV doc pm an cdv ct us its l1 l2 => match us, its, l1, l2 with | [_, _], [_], _, _ => ⟨_, rfl, rfl⟩)
  have ed : ds = [] := List.eq_nil_of_length_eq_zero vd.length.symm
  subst ed
  have GB : FnOk P w K mg base CX0 1 _ _ ["self", "word"] (spBase K) := okI_Missing (k := 0) Fb
  have bX := F.binds (ps := ["self", "figure"]) fun _ _ _ _ _ _ us hl => match us, hl with | [_, _], _ => rfl
  have GX := okI_NoFigure (k := 1) F L.T (L.n "word" (List.mem_cons_self ..)) (L.n "figure" (List.mem_cons_of_mem _ (List.mem_cons_self ..))) L.B GB bb mb
  exact ⟨L.T, mX, _, _, _, L.i, L.t, GX.mono hj, bX⟩
theorem exk_NoPad {P : Program} {w : World} {K : PySem.W.Frag} {mg : Str → Option Value} {base : Heap} {fd fdb : FuncData} (L : LeafK K "NoPad" "Missing" ["pad"]) (F : Fun K "__init__" "NoPad.__init__" sI_NoPad (He.ma K (He.ga K "NoPad") "__init__") fd)
    (Fb : FunD K "__init__" "Missing.__init__" (defArgs sI_Missing) (defBody sI_Missing) (defScope sI_Missing) [.str "Missing"] [] (He.ma K (He.ga K "Missing") "__init__") fdb) (mX : mg "NoPad" = some (.ref (He.ga K "NoPad"))) (mb : mg "Missing" = some (.ref (He.ga K "Missing"))) {j : Nat} (hj : 2 ≤ j) :
    ExcK P w K mg base j "NoPad" (He.ga K "NoPad") 1 (fun ws => [("pad", ws.getD 0 .non), ("word", .str "NoPad")]) := by
  obtain ⟨ds, vd, bb⟩ := Fb.binds1 (ps := ["self", "word"]) 2 1 (List.cons_ne_nil _ _) rfl (fun T kV doc pm an cdv ct us its l1 l2 => match us, its, l1, l2 with | [_, _], [_], _, _ => ⟨_, rfl, rfl⟩)
  have ed : ds = [] := List.eq_nil_of_length_eq_zero vd.length.symm
  subst ed
  have GB : FnOk P w K mg base CX0 1 _ _ ["self", "word"] (spBase K) := okI_Missing (k := 0) Fb
  have bX := F.binds (ps := ["self", "pad"]) fun _ _ _ _ _ _ us hl => match us, hl with | [_, _], _ => rfl
  have GX := okI_NoPad (k := 1) F L.T (L.n "word" (List.mem_cons_self ..)) (L.n "pad" (List.mem_cons_of_mem _ (List.mem_cons_self ..))) L.B GB bb mb
  exact ⟨L.T, mX, _, _, _, L.i, L.t, GX.mono hj, bX⟩
theorem exk_OtherBook {P : Program} {w : World} {K : PySem.W.Frag} {mg : Str → Option Value} {base : Heap} {fd fdb : FuncData} (L : LeafK K "OtherBook" "TearError" []) (F : Fun K "__init__" "OtherBook.__init__" sI_OtherBook (He.ma K (He.ga K "OtherBook") "__init__") fd)
    (Fb : FunD K "__init__" "TearError.__init__" (defArgs sI_TearError) (defBody sI_TearError) (defScope sI_TearError) [.str "TearError"] [] (He.ma K (He.ga K "TearError") "__init__") fdb) (mX : mg "OtherBook" = some (.ref (He.ga K "OtherBook"))) (mb : mg "TearError" = some (.ref (He.ga K "TearError"))) {j : Nat} (hj : 2 ≤ j) :
    ExcK P w K mg base j "OtherBook" (He.ga K "OtherBook") 0 (fun ws => [("word", .str "OtherBook")]) := by
  obtain ⟨ds, vd, bb⟩ := Fb.binds1 (ps := ["self", "word"]) 2 1 (List.cons_ne_nil _ _) rfl (fun T kV doc pm an cdv ct us its l1 l2 => match us, its, l1, l2 with | [_, _], [_], _, _ => ⟨_, rfl, rfl⟩)
  have ed : ds = [] := List.eq_nil_of_length_eq_zero vd.length.symm
  subst ed
  have GB : FnOk P w K mg base CX0 1 _ _ ["self", "word"] (spBase K) := okI_TearError (k := 0) Fb
  have bX := F.binds (ps := ["self"]) fun _ _ _ _ _ _ us hl => match us, hl with | [_], _ => rfl
  have GX := okI_OtherBook (k := 1) F L.T (L.n "word" (List.mem_cons_self ..)) L.B GB bb mb
  exact ⟨L.T, mX, _, _, _, L.i, L.t, GX.mono hj, bX⟩
theorem exk_NoBeginning {P : Program} {w : World} {K : PySem.W.Frag} {mg : Str → Option Value} {base : Heap} {fd fdb : FuncData} (L : LeafK K "NoBeginning" "TearError" []) (F : Fun K "__init__" "NoBeginning.__init__" sI_NoBeginning (He.ma K (He.ga K "NoBeginning") "__init__") fd)
    (Fb : FunD K "__init__" "TearError.__init__" (defArgs sI_TearError) (defBody sI_TearError) (defScope sI_TearError) [.str "TearError"] [] (He.ma K (He.ga K "TearError") "__init__") fdb) (mX : mg "NoBeginning" = some (.ref (He.ga K "NoBeginning"))) (mb : mg "TearError" = some (.ref (He.ga K "TearError"))) {j : Nat} (hj : 2 ≤ j) :
    ExcK P w K mg base j "NoBeginning" (He.ga K "NoBeginning") 0 (fun ws => [("word", .str "NoBeginning")]) := by
  obtain ⟨ds, vd, bb⟩ := Fb.binds1 (ps := ["self", "word"]) 2 1 (List.cons_ne_nil _ _) rfl (fun T kV doc pm an cdv ct us its l1 l2 => match us, its, l1, l2 with | [_, _], [_], _, _ => ⟨_, rfl, rfl⟩)
  have ed : ds = [] := List.eq_nil_of_length_eq_zero vd.length.symm
  subst ed
  have GB : FnOk P w K mg base CX0 1 _ _ ["self", "word"] (spBase K) := okI_TearError (k := 0) Fb
  have bX := F.binds (ps := ["self"]) fun _ _ _ _ _ _ us hl => match us, hl with | [_], _ => rfl
  have GX := okI_NoBeginning (k := 1) F L.T (L.n "word" (List.mem_cons_self ..)) L.B GB bb mb
  exact ⟨L.T, mX, _, _, _, L.i, L.t, GX.mono hj, bX⟩
theorem exk_Barred {P : Program} {w : World} {K : PySem.W.Frag} {mg : Str → Option Value} {base : Heap} {fd fdb : FuncData} (L : LeafK K "Barred" "TearError" ["pad"]) (F : Fun K "__init__" "Barred.__init__" sI_Barred (He.ma K (He.ga K "Barred") "__init__") fd)
    (Fb : FunD K "__init__" "TearError.__init__" (defArgs sI_TearError) (defBody sI_TearError) (defScope sI_TearError) [.str "TearError"] [] (He.ma K (He.ga K "TearError") "__init__") fdb) (mX : mg "Barred" = some (.ref (He.ga K "Barred"))) (mb : mg "TearError" = some (.ref (He.ga K "TearError"))) {j : Nat} (hj : 2 ≤ j) :
    ExcK P w K mg base j "Barred" (He.ga K "Barred") 1 (fun ws => [("pad", ws.getD 0 .non), ("word", .str "Barred")]) := by
  obtain ⟨ds, vd, bb⟩ := Fb.binds1 (ps := ["self", "word"]) 2 1 (List.cons_ne_nil _ _) rfl (fun T kV doc pm an cdv ct us its l1 l2 => match us, its, l1, l2 with | [_, _], [_], _, _ => ⟨_, rfl, rfl⟩)
  have ed : ds = [] := List.eq_nil_of_length_eq_zero vd.length.symm
  subst ed
  have GB : FnOk P w K mg base CX0 1 _ _ ["self", "word"] (spBase K) := okI_TearError (k := 0) Fb
  have bX := F.binds (ps := ["self", "pad"]) fun _ _ _ _ _ _ us hl => match us, hl with | [_, _], _ => rfl
  have GX := okI_Barred (k := 1) F L.T (L.n "word" (List.mem_cons_self ..)) (L.n "pad" (List.mem_cons_of_mem _ (List.mem_cons_self ..))) L.B GB bb mb
  exact ⟨L.T, mX, _, _, _, L.i, L.t, GX.mono hj, bX⟩
/-! ### the head by facts; the end -/
def hFa : List He.Fa := rNms.map He.Fa.glo ++ (([.glo "check_colours", .glo "check_figures", .glo "is_figure", .glo "is_triple", .glo "check_meetings", .glo "copy_of_figure", .glo "pads_of", .glo "mask_of", .glo "bar", .glo "tiers_of", .glo "_law_bag", .glo "_law_pull"] : List He.Fa) ++ ([.glo "_law_of", .glo "_law_hues", .glo "_law_shape", .glo "_law_bars", .glo "_law_shapes", .glo "_law_heap_scene", .glo "_law_row", .glo "_law_like", .glo "_law_pads", .glo "_law_meet", .glo "_law_layers", .glo "_law_heap_is"] : List He.Fa) ++ ([.glo "_law_tried", .glo "row_without", .glo "beginning_of", .glo "is_next", .glo "first_unlike", .glo "law", .glo "Missing", .glo "NoFigure", .glo "NoPad", .glo "TearError", .glo "OtherBook", .glo "NoBeginning"] : List He.Fa) ++ ([.glo "Barred", .glo "Book", .cls "Book", .noat "Book" "palette", .noat "Book" "shapes", .mkr "Book", .meth "Book" "__init__", .meth "Book" "pads", .meth "Book" "shape", .meth "Book" "__eq__", .glo "Heap", .cls "Heap"] : List He.Fa) ++ ([.noat "Heap" "owner", .noat "Heap" "tiers", .mkr "Heap", .meth "Heap" "__init__", .meth "Heap" "book", .meth "Heap" "layers", .meth "Heap" "row", .meth "Heap" "plus", .meth "Heap" "check_book", .meth "Heap" "__len__", .meth "Heap" "__eq__", .meth "Heap" "on"] : List He.Fa) ++ ([.meth "Heap" "columns", .meth "Heap" "meet", .meth "Heap" "begins", .meth "Heap" "less", .meth "Heap" "taken", .meth "Heap" "joined", .meth "Heap" "parted", .free "len", .free "list", .free "tuple", .free "range", .free "isinstance"] : List He.Fa) ++ ([.free "all", .free "any", .free "bool", .free "int", .free "str", .free "dict", .free "enumerate", .free "zip", .free "max", .free "sorted", .free "sum", .int "MOST_PADS" 6] : List He.Fa) ++ ([.int "MOST_COLOURS" 4, .int "MOST_FIGURES" 12, .int "MOST_DEPTH" 3] : List He.Fa))
def hFn : List He.DefD := ([dOf ("check_colours", none) "check_colours" "check_colours" sCCol [] [], dOf ("check_figures", none) "check_figures" "check_figures" sCFig [] [], dOf ("is_figure", none) "is_figure" "is_figure" sIsFig [] [], dOf ("is_triple", none) "is_triple" "is_triple" sIsTri [] [], dOf ("check_meetings", none) "check_meetings" "check_meetings" sCMeet [] [], dOf ("copy_of_figure", none) "copy_of_figure" "copy_of_figure" sCopyF [] [], dOf ("pads_of", none) "pads_of" "pads_of" sPadsOf [] [], dOf ("mask_of", none) "mask_of" "mask_of" sMask [] [], dOf ("bar", none) "bar" "bar" sBar [] [], dOf ("tiers_of", none) "tiers_of" "tiers_of" sTiers [] [], dOf ("_law_bag", none) "_law_bag" "_law_bag" sBag [] [], dOf ("_law_pull", none) "_law_pull" "_law_pull" sPull [] []] : List He.DefD) ++ ([dOf ("_law_of", none) "_law_of" "_law_of" sOf [] [], dOf ("_law_hues", none) "_law_hues" "_law_hues" sHues [] [], dOf ("_law_shape", none) "_law_shape" "_law_shape" sShape [] [], dOf ("_law_bars", none) "_law_bars" "_law_bars" sBars [] [], dOf ("_law_shapes", none) "_law_shapes" "_law_shapes" sShapes [] [], dOf ("_law_heap_scene", none) "_law_heap_scene" "_law_heap_scene" sScene [] [], dOf ("_law_row", none) "_law_row" "_law_row" sLRow [] [], dOf ("_law_like", none) "_law_like" "_law_like" sLike [] [], dOf ("_law_pads", none) "_law_pads" "_law_pads" sLPads [] [], dOf ("_law_meet", none) "_law_meet" "_law_meet" sLMeet [] [], dOf ("_law_layers", none) "_law_layers" "_law_layers" sLLay [] [], dOf ("_law_heap_is", none) "_law_heap_is" "_law_heap_is" sHIs [] []] : List He.DefD) ++ ([dOf ("_law_tried", none) "_law_tried" "_law_tried" sTried [] [], dOf ("row_without", none) "row_without" "row_without" sRWo [] [], dOf ("beginning_of", none) "beginning_of" "beginning_of" sBeg [] [], dOf ("is_next", none) "is_next" "is_next" sNext [] [], dOf ("first_unlike", none) "first_unlike" "first_unlike" sFU [] [], dOf ("law", none) "law" "law" sLaw [] [], dOf ("Missing", some "__init__") "__init__" "Missing.__init__" sI_Missing [.str "Missing"] [], dOf ("NoFigure", some "__init__") "__init__" "NoFigure.__init__" sI_NoFigure [] [], dOf ("NoPad", some "__init__") "__init__" "NoPad.__init__" sI_NoPad [] [], dOf ("TearError", some "__init__") "__init__" "TearError.__init__" sI_TearError [.str "TearError"] [], dOf ("OtherBook", some "__init__") "__init__" "OtherBook.__init__" sI_OtherBook [] [], dOf ("NoBeginning", some "__init__") "__init__" "NoBeginning.__init__" sI_NoBeginning [] []] : List He.DefD) ++ ([dOf ("Barred", some "__init__") "__init__" "Barred.__init__" sI_Barred [] [], dOf ("Book", some "__init__") "__init__" "Book.__init__" sInit [] [("figures", .adr emptyT)], dOf ("Book", some "pads") "pads" "Book.pads" sPadsM [] [], dOf ("Book", some "shape") "shape" "Book.shape" sShpX [] [], dOf ("Book", some "__eq__") "__eq__" "Book.__eq__" sBEq [] [], dOf ("Heap", some "__init__") "__init__" "Heap.__init__" sHInit [.adr emptyH] [], dOf ("Heap", some "book") "book" "Heap.book" sHBook [] [], dOf ("Heap", some "layers") "layers" "Heap.layers" sHLay [] [], dOf ("Heap", some "row") "row" "Heap.row" sHRow [] [], dOf ("Heap", some "plus") "plus" "Heap.plus" sHPlus [] [], dOf ("Heap", some "check_book") "check_book" "Heap.check_book" sHChk [] [], dOf ("Heap", some "__len__") "__len__" "Heap.__len__" sHLen [] []] : List He.DefD) ++ ([dOf ("Heap", some "__eq__") "__eq__" "Heap.__eq__" sHEq [] [], dOf ("Heap", some "on") "on" "Heap.on" sHOn [] [], dOf ("Heap", some "columns") "columns" "Heap.columns" sHCols [] [], dOf ("Heap", some "meet") "meet" "Heap.meet" sHMeet [] [], dOf ("Heap", some "begins") "begins" "Heap.begins" sHBeg [] [], dOf ("Heap", some "less") "less" "Heap.less" sHLess [] [], dOf ("Heap", some "taken") "taken" "Heap.taken" sHTkn [] [], dOf ("Heap", some "joined") "joined" "Heap.joined" sHJoin [] [], dOf ("Heap", some "parted") "parted" "Heap.parted" sHPtd [] []] : List He.DefD)
def hEx (K : PySem.W.Frag) : Bool := refsB K && (leafB K "NoFigure" "Missing" "LookupError" "LookupError.__new__" ["figure"] && (leafB K "NoPad" "Missing" "LookupError" "LookupError.__new__" ["pad"] && (leafB K "OtherBook" "TearError" "ValueError" "ValueError.__new__" [] && (leafB K "NoBeginning" "TearError" "ValueError" "ValueError.__new__" [] && (leafB K "Barred" "TearError" "ValueError" "ValueError.__new__" ["pad"] && (clsEB K (He.ga K "Book") (He.ma K (He.ga K "Book") "__eq__") && (clsEB K (He.ga K "Heap") (He.ma K (He.ga K "Heap") "__eq__") && (lenB K (He.ga K "Heap") (He.ma K (He.ga K "Heap") "__len__") && (emptyB K (emptyH K) && (!decide ((He.cT K (("law", none) : He.Defn)).2 = (He.cT K (("Heap", some "meet") : He.Defn)).2)))))))))))
def hTf : List He.Defn := [("law", none), ("Heap", some "meet")]
def hNames : List PySem.Str := (["_wall", "TearError", "BadColours", "BadFigure", "Meeting", "TooMany", "TooFar", "BadOrder", "OtherColours", "OtherBook", "BadRow", "BadNote"] : List PySem.Str) ++ (["BadBeneath", "Full", "NoEnd", "NotStanding", "NeverClear", "BadDeed", "BadNumber", "NoBeginning", "Barred", "BadHeights", "BadWeights", "NoMean"] : List PySem.Str) ++ (["BadText", "Missing", "NoPad", "NoFigure", "NoNote", "Stuck", "NothingBack", "NothingAgain", "MOST_PADS", "MOST_COLOURS", "MOST_FIGURES", "MOST_DEPTH"] : List PySem.Str) ++ (["Book", "check_colours", "check_figures", "is_figure", "is_triple", "check_meetings", "copy_of_figure", "pads_of", "mask_of", "bar", "colours_text", "figure_text"] : List PySem.Str) ++ (["triple_text", "MOST_STANDS", "Heap", "tiers_of", "beginning_of", "is_next", "row_without", "first_unlike", "_law_bag", "_law_pull", "_law_of", "_law_hues"] : List PySem.Str) ++ (["_law_shape", "_law_bars", "_law_shapes", "_law_heap_scene", "_law_row", "_law_tried", "_law_like", "_law_pads", "_law_meet", "_law_layers", "_law_heap_is"] : List PySem.Str)
abbrev hR : PySem.W.OpenRow := PySem.W.OpenLaw.row PySem.Challenge.rw_tearboard_k38_heaps_of_other_books
def hAs : List Addr := ([2, 3, 6, 4, 21, 39, 59, 78, 97, 116, 135, 154, 173, 192, 211, 230, 249, 268, 287, 306, 325, 344, 363, 382, 401, 420, 439, 458, 477, 497, 517, 536, 555, 575, 595, 614, 708, 719, 726, 731, 738, 743, 748, 753, 758, 763, 768, 773, 780, 924, 933, 938, 943, 950, 957, 964, 971, 978, 983, 990] : List Addr) ++ ([995, 1000, 1007, 1012, 1019, 1024, 1029, 1034, 1039, 1046, 1051, 0, 20, 38, 58, 77, 96, 115, 134, 153, 172, 191, 210, 229, 248, 267, 286, 305, 324, 343, 362, 381, 400, 419, 438, 457, 476, 496, 516, 535, 554, 574, 594, 613, 707, 718, 725, 730, 737, 742, 747, 752, 757, 762, 767, 772, 779, 923, 932, 937] : List Addr) ++ ([942, 949, 956, 963, 970, 977, 982, 989, 994, 999, 1006, 1011, 1018, 1023, 1028, 1033, 1038, 1045, 1050, 15, 16, 17, 18, 19, 36, 37, 40, 56, 57, 75, 76, 94, 95, 113, 114, 132, 133, 151, 152, 170, 171, 189, 190, 208, 209, 227, 228, 246, 247, 265, 266, 284, 285, 303, 304, 322, 323, 341, 342, 360] : List Addr) ++ ([361, 379, 380, 398, 399, 417, 418, 436, 437, 455, 456, 474, 475, 494, 495, 498, 514, 515, 533, 534, 552, 553, 572, 573, 576, 592, 593, 611, 612, 630, 637, 644, 651, 658, 665, 672, 679, 686, 693, 698, 705, 706, 709, 710, 713, 714, 715, 716, 717, 720, 721, 722, 723, 724, 727, 728, 729, 732, 733, 734] : List Addr) ++ ([735, 736, 739, 740, 741, 744, 745, 746, 749, 750, 751, 754, 755, 756, 759, 760, 761, 764, 765, 766, 769, 770, 771, 774, 775, 776, 777, 778, 796, 803, 808, 813, 818, 823, 828, 833, 840, 848, 855, 860, 867, 874, 881, 888, 895, 902, 909, 914, 921, 922, 925, 926, 929, 930, 931, 934, 935, 936, 939, 940] : List Addr) ++ ([941, 944, 945, 946, 947, 948, 951, 952, 953, 954, 955, 958, 959, 960, 961, 962, 965, 966, 967, 968, 969, 972, 973, 974, 975, 976, 979, 980, 981, 984, 985, 986, 987, 988, 991, 992, 993, 996, 997, 998, 1001, 1002, 1003, 1004, 1005, 1008, 1009, 1010, 1013, 1014, 1015, 1016, 1017, 1020, 1021, 1022, 1025, 1026, 1027, 1030] : List Addr) ++ ([1031, 1032, 1035, 1036, 1037, 1040, 1041, 1042, 1043, 1044, 1047, 1048, 1049, 35, 29, 55, 74, 93, 112, 131, 150, 169, 188, 207, 226, 245, 264, 283, 302, 321, 340, 359, 378, 397, 416, 435, 454, 473, 493, 487, 513, 532, 551, 571, 565, 591, 610, 629, 625, 636, 643, 650, 657, 664, 671, 678, 685, 692, 697, 704] : List Addr) ++ ([795, 789, 802, 807, 812, 817, 822, 827, 832, 839, 847, 841, 854, 859, 866, 873, 880, 887, 894, 901, 908, 913, 920, 30, 31, 32, 33, 34, 50, 51, 52, 53, 54, 69, 70, 71, 72, 73, 88, 89, 90, 91, 92, 107, 108, 109, 110, 111, 126, 127, 128, 129, 130, 145, 146, 147, 148, 149, 164, 165] : List Addr) ++ ([166, 167, 168, 183, 184, 185, 186, 187, 202, 203, 204, 205, 206, 221, 222, 223, 224, 225, 240, 241, 242, 243, 244, 259, 260, 261, 262, 263, 278, 279, 280, 281, 282, 297, 298, 299, 300, 301, 316, 317, 318, 319, 320, 335, 336, 337, 338, 339, 354, 355, 356, 357, 358, 373, 374, 375, 376, 377, 392, 393] : List Addr) ++ ([394, 395, 396, 411, 412, 413, 414, 415, 430, 431, 432, 433, 434, 449, 450, 451, 452, 453, 468, 469, 470, 471, 472, 488, 489, 490, 491, 492, 508, 509, 510, 511, 512, 527, 528, 529, 530, 531, 546, 547, 548, 549, 550, 566, 567, 568, 569, 570, 586, 587, 588, 589, 590, 605, 606, 607, 608, 609, 626, 627] : List Addr) ++ ([628, 624, 631, 632, 633, 634, 635, 638, 639, 640, 641, 642, 645, 646, 647, 648, 649, 652, 653, 654, 655, 656, 659, 660, 661, 662, 663, 666, 667, 668, 669, 670, 673, 674, 675, 676, 677, 680, 681, 682, 683, 684, 687, 688, 689, 690, 691, 694, 695, 696, 699, 700, 701, 702, 703, 790, 791, 792, 793, 794] : List Addr) ++ ([788, 797, 798, 799, 800, 801, 804, 805, 806, 809, 810, 811, 814, 815, 816, 819, 820, 821, 824, 825, 826, 829, 830, 831, 834, 835, 836, 837, 838, 842, 843, 844, 845, 846, 849, 850, 851, 852, 853, 856, 857, 858, 861, 862, 863, 864, 865, 868, 869, 870, 871, 872, 875, 876, 877, 878, 879, 882, 883, 884] : List Addr) ++ ([885, 886, 889, 890, 891, 892, 893, 896, 897, 898, 899, 900, 903, 904, 905, 906, 907, 910, 911, 912, 915, 916, 917, 918, 919] : List Addr)
abbrev hK : PySem.W.Hook := hookL hAs hFa hFn hTf hEx
def hOb (s : PySem.W.SharedT) : He.AlX := lookL hAs hFa hFn hTf hEx (HandSHeadRun.getT s)
theorem hOb_eq (s : PySem.W.SharedT) : hOb s = hK.obs s.abs := lookL_eq s
theorem hFacts {l : PySem.W.OpenLaw} {w : World} {K : PySem.W.Frag} {h : Heap} {mg : Str → Option Value} {fa0 : Addr} (X : K.In h) (G : h.Ns mainGlobals mg) (hfa : mg "law" = some (.ref fa0)) (c : He.SaysX hFa hFn [] hTf hEx w h K) : LamX.LawAtS l w K CX0 14 63 "_law_script" mg fa0 h := by
  have cd := c.t.d
  have mo0 := c.more
  obtain ⟨x0, mo1⟩ := He.ba mo0
  obtain ⟨x1, mo2⟩ := He.ba mo1
  obtain ⟨x2, mo3⟩ := He.ba mo2
  obtain ⟨x3, mo4⟩ := He.ba mo3
  obtain ⟨x4, mo5⟩ := He.ba mo4
  obtain ⟨x5, mo6⟩ := He.ba mo5
  obtain ⟨x6, mo7⟩ := He.ba mo6
  obtain ⟨x7, mo8⟩ := He.ba mo7
  obtain ⟨x8, mo9⟩ := He.ba mo8
  obtain ⟨x9, mo10⟩ := He.ba mo9
  have x10 := mo10
  have RT := refsB_ok X G cd x0
  obtain ⟨fdcc, Fcc0⟩ := cd.def_ 0 (d := dOf ("check_colours", none) "check_colours" "check_colours" sCCol [] []) rfl
  have Fcc : Fun K "check_colours" "check_colours" sCCol (He.ga K "check_colours") fdcc := funOf Fcc0
  have gcc : mg "check_colours" = some (.ref (He.ga K "check_colours")) := He.glo_ok X G (cd.fact 28 (f := .glo "check_colours") rfl)
  have bcc := Fcc.binds (ps := ["colours"]) fun _ _ _ _ _ _ us hl => match us, hl with | [_], _ => rfl
  obtain ⟨fdcf, Fcf0⟩ := cd.def_ 1 (d := dOf ("check_figures", none) "check_figures" "check_figures" sCFig [] []) rfl
  have Fcf : Fun K "check_figures" "check_figures" sCFig (He.ga K "check_figures") fdcf := funOf Fcf0
  have gcf : mg "check_figures" = some (.ref (He.ga K "check_figures")) := He.glo_ok X G (cd.fact 29 (f := .glo "check_figures") rfl)
  have bcf := Fcf.binds (ps := ["colours", "figures"]) fun _ _ _ _ _ _ us hl => match us, hl with | [_, _], _ => rfl
  obtain ⟨fdfi, Ffi0⟩ := cd.def_ 2 (d := dOf ("is_figure", none) "is_figure" "is_figure" sIsFig [] []) rfl
  have Ffi : Fun K "is_figure" "is_figure" sIsFig (He.ga K "is_figure") fdfi := funOf Ffi0
  have gfi : mg "is_figure" = some (.ref (He.ga K "is_figure")) := He.glo_ok X G (cd.fact 30 (f := .glo "is_figure") rfl)
  have bfi := Ffi.binds (ps := ["colours", "figure"]) fun _ _ _ _ _ _ us hl => match us, hl with | [_, _], _ => rfl
  obtain ⟨fdti, Fti0⟩ := cd.def_ 3 (d := dOf ("is_triple", none) "is_triple" "is_triple" sIsTri [] []) rfl
  have Fti : Fun K "is_triple" "is_triple" sIsTri (He.ga K "is_triple") fdti := funOf Fti0
  have gti : mg "is_triple" = some (.ref (He.ga K "is_triple")) := He.glo_ok X G (cd.fact 31 (f := .glo "is_triple") rfl)
  have bti := Fti.binds (ps := ["colours", "triple"]) fun _ _ _ _ _ _ us hl => match us, hl with | [_, _], _ => rfl
  obtain ⟨fdcm, Fcm0⟩ := cd.def_ 4 (d := dOf ("check_meetings", none) "check_meetings" "check_meetings" sCMeet [] []) rfl
  have Fcm : Fun K "check_meetings" "check_meetings" sCMeet (He.ga K "check_meetings") fdcm := funOf Fcm0
  have gcm : mg "check_meetings" = some (.ref (He.ga K "check_meetings")) := He.glo_ok X G (cd.fact 32 (f := .glo "check_meetings") rfl)
  have bcm := Fcm.binds (ps := ["figures"]) fun _ _ _ _ _ _ us hl => match us, hl with | [_], _ => rfl
  obtain ⟨fdcy, Fcy0⟩ := cd.def_ 5 (d := dOf ("copy_of_figure", none) "copy_of_figure" "copy_of_figure" sCopyF [] []) rfl
  have Fcy : Fun K "copy_of_figure" "copy_of_figure" sCopyF (He.ga K "copy_of_figure") fdcy := funOf Fcy0
  have gcy : mg "copy_of_figure" = some (.ref (He.ga K "copy_of_figure")) := He.glo_ok X G (cd.fact 33 (f := .glo "copy_of_figure") rfl)
  have bcy := Fcy.binds (ps := ["figure"]) fun _ _ _ _ _ _ us hl => match us, hl with | [_], _ => rfl
  obtain ⟨fdpo_, Fpo_0⟩ := cd.def_ 6 (d := dOf ("pads_of", none) "pads_of" "pads_of" sPadsOf [] []) rfl
  have Fpo_ : Fun K "pads_of" "pads_of" sPadsOf (He.ga K "pads_of") fdpo_ := funOf Fpo_0
  have gpo_ : mg "pads_of" = some (.ref (He.ga K "pads_of")) := He.glo_ok X G (cd.fact 34 (f := .glo "pads_of") rfl)
  have bpo_ := Fpo_.binds (ps := ["figure"]) fun _ _ _ _ _ _ us hl => match us, hl with | [_], _ => rfl
  obtain ⟨fdms, Fms0⟩ := cd.def_ 7 (d := dOf ("mask_of", none) "mask_of" "mask_of" sMask [] []) rfl
  have Fms : Fun K "mask_of" "mask_of" sMask (He.ga K "mask_of") fdms := funOf Fms0
  have gms : mg "mask_of" = some (.ref (He.ga K "mask_of")) := He.glo_ok X G (cd.fact 35 (f := .glo "mask_of") rfl)
  have bms := Fms.binds (ps := ["figure"]) fun _ _ _ _ _ _ us hl => match us, hl with | [_], _ => rfl
  obtain ⟨fdba, Fba0⟩ := cd.def_ 8 (d := dOf ("bar", none) "bar" "bar" sBar [] []) rfl
  have Fba : Fun K "bar" "bar" sBar (He.ga K "bar") fdba := funOf Fba0
  have gba : mg "bar" = some (.ref (He.ga K "bar")) := He.glo_ok X G (cd.fact 36 (f := .glo "bar") rfl)
  have bba := Fba.binds (ps := ["one", "other"]) fun _ _ _ _ _ _ us hl => match us, hl with | [_, _], _ => rfl
  obtain ⟨fdtr, Ftr0⟩ := cd.def_ 9 (d := dOf ("tiers_of", none) "tiers_of" "tiers_of" sTiers [] []) rfl
  have Ftr : Fun K "tiers_of" "tiers_of" sTiers (He.ga K "tiers_of") fdtr := funOf Ftr0
  have gtr : mg "tiers_of" = some (.ref (He.ga K "tiers_of")) := He.glo_ok X G (cd.fact 37 (f := .glo "tiers_of") rfl)
  have btr := Ftr.binds (ps := ["book", "row"]) fun _ _ _ _ _ _ us hl => match us, hl with | [_, _], _ => rfl
  obtain ⟨fdB, FB0⟩ := cd.def_ 10 (d := dOf ("_law_bag", none) "_law_bag" "_law_bag" sBag [] []) rfl
  have FB : Fun K "_law_bag" "_law_bag" sBag (He.ga K "_law_bag") fdB := funOf FB0
  have gB : mg "_law_bag" = some (.ref (He.ga K "_law_bag")) := He.glo_ok X G (cd.fact 38 (f := .glo "_law_bag") rfl)
  have bB := FB.binds (ps := ["_law_script"]) fun _ _ _ _ _ _ us hl => match us, hl with | [_], _ => rfl
  obtain ⟨fdP, FP0⟩ := cd.def_ 11 (d := dOf ("_law_pull", none) "_law_pull" "_law_pull" sPull [] []) rfl
  have FP : Fun K "_law_pull" "_law_pull" sPull (He.ga K "_law_pull") fdP := funOf FP0
  have gP : mg "_law_pull" = some (.ref (He.ga K "_law_pull")) := He.glo_ok X G (cd.fact 39 (f := .glo "_law_pull") rfl)
  have bP := FP.binds (ps := ["_law_bag_here", "_law_size"]) fun _ _ _ _ _ _ us hl => match us, hl with | [_, _], _ => rfl
  obtain ⟨fdO, FO0⟩ := cd.def_ 12 (d := dOf ("_law_of", none) "_law_of" "_law_of" sOf [] []) rfl
  have FO : Fun K "_law_of" "_law_of" sOf (He.ga K "_law_of") fdO := funOf FO0
  have gO : mg "_law_of" = some (.ref (He.ga K "_law_of")) := He.glo_ok X G (cd.fact 40 (f := .glo "_law_of") rfl)
  have bO := FO.binds (ps := ["_law_bag_here", "_law_things"]) fun _ _ _ _ _ _ us hl => match us, hl with | [_, _], _ => rfl
  obtain ⟨fdHu, FHu0⟩ := cd.def_ 13 (d := dOf ("_law_hues", none) "_law_hues" "_law_hues" sHues [] []) rfl
  have FHu : Fun K "_law_hues" "_law_hues" sHues (He.ga K "_law_hues") fdHu := funOf FHu0
  have gHu : mg "_law_hues" = some (.ref (He.ga K "_law_hues")) := He.glo_ok X G (cd.fact 41 (f := .glo "_law_hues") rfl)
  have bHu := FHu.binds (ps := ["_law_bag_here", "_law_most"]) fun _ _ _ _ _ _ us hl => match us, hl with | [_, _], _ => rfl
  obtain ⟨fdSp, FSp0⟩ := cd.def_ 14 (d := dOf ("_law_shape", none) "_law_shape" "_law_shape" sShape [] []) rfl
  have FSp : Fun K "_law_shape" "_law_shape" sShape (He.ga K "_law_shape") fdSp := funOf FSp0
  have gSp : mg "_law_shape" = some (.ref (He.ga K "_law_shape")) := He.glo_ok X G (cd.fact 42 (f := .glo "_law_shape") rfl)
  have bSp := FSp.binds (ps := ["_law_bag_here", "_law_colours"]) fun _ _ _ _ _ _ us hl => match us, hl with | [_, _], _ => rfl
  obtain ⟨fdBa, FBa0⟩ := cd.def_ 15 (d := dOf ("_law_bars", none) "_law_bars" "_law_bars" sBars [] []) rfl
  have FBa : Fun K "_law_bars" "_law_bars" sBars (He.ga K "_law_bars") fdBa := funOf FBa0
  have gBa : mg "_law_bars" = some (.ref (He.ga K "_law_bars")) := He.glo_ok X G (cd.fact 43 (f := .glo "_law_bars") rfl)
  have bBa := FBa.binds (ps := ["_law_one", "_law_other"]) fun _ _ _ _ _ _ us hl => match us, hl with | [_, _], _ => rfl
  obtain ⟨fdSs, FSs0⟩ := cd.def_ 16 (d := dOf ("_law_shapes", none) "_law_shapes" "_law_shapes" sShapes [] []) rfl
  have FSs : Fun K "_law_shapes" "_law_shapes" sShapes (He.ga K "_law_shapes") fdSs := funOf FSs0
  have gSs : mg "_law_shapes" = some (.ref (He.ga K "_law_shapes")) := He.glo_ok X G (cd.fact 44 (f := .glo "_law_shapes") rfl)
  have bSs := FSs.binds (ps := ["_law_bag_here", "_law_colours", "_law_most"]) fun _ _ _ _ _ _ us hl => match us, hl with | [_, _, _], _ => rfl
  obtain ⟨fdSc, FSc0⟩ := cd.def_ 17 (d := dOf ("_law_heap_scene", none) "_law_heap_scene" "_law_heap_scene" sScene [] []) rfl
  have FSc : Fun K "_law_heap_scene" "_law_heap_scene" sScene (He.ga K "_law_heap_scene") fdSc := funOf FSc0
  have gSc : mg "_law_heap_scene" = some (.ref (He.ga K "_law_heap_scene")) := He.glo_ok X G (cd.fact 45 (f := .glo "_law_heap_scene") rfl)
  have bSc := FSc.binds (ps := ["_law_bag_here", "_law_pads_here", "_law_my_figures"]) fun _ _ _ _ _ _ us hl => match us, hl with | [_, _, _], _ => rfl
  obtain ⟨fdRo, FRo0⟩ := cd.def_ 18 (d := dOf ("_law_row", none) "_law_row" "_law_row" sLRow [] []) rfl
  have FRo : Fun K "_law_row" "_law_row" sLRow (He.ga K "_law_row") fdRo := funOf FRo0
  have gRo : mg "_law_row" = some (.ref (He.ga K "_law_row")) := He.glo_ok X G (cd.fact 46 (f := .glo "_law_row") rfl)
  have bRo := FRo.binds (ps := ["_law_bag_here", "_law_shapes_here", "_law_most"]) fun _ _ _ _ _ _ us hl => match us, hl with | [_, _, _], _ => rfl
  obtain ⟨fdK, FK0⟩ := cd.def_ 19 (d := dOf ("_law_like", none) "_law_like" "_law_like" sLike [] []) rfl
  have FK : Fun K "_law_like" "_law_like" sLike (He.ga K "_law_like") fdK := funOf FK0
  have gK : mg "_law_like" = some (.ref (He.ga K "_law_like")) := He.glo_ok X G (cd.fact 47 (f := .glo "_law_like") rfl)
  have bK := FK.binds (ps := ["_law_one", "_law_due"]) fun _ _ _ _ _ _ us hl => match us, hl with | [_, _], _ => rfl
  obtain ⟨fdPd, FPd0⟩ := cd.def_ 20 (d := dOf ("_law_pads", none) "_law_pads" "_law_pads" sLPads [] []) rfl
  have FPd : Fun K "_law_pads" "_law_pads" sLPads (He.ga K "_law_pads") fdPd := funOf FPd0
  have gPd : mg "_law_pads" = some (.ref (He.ga K "_law_pads")) := He.glo_ok X G (cd.fact 48 (f := .glo "_law_pads") rfl)
  have bPd := FPd.binds (ps := ["_law_shape_here"]) fun _ _ _ _ _ _ us hl => match us, hl with | [_], _ => rfl
  obtain ⟨fdMe, FMe0⟩ := cd.def_ 21 (d := dOf ("_law_meet", none) "_law_meet" "_law_meet" sLMeet [] []) rfl
  have FMe : Fun K "_law_meet" "_law_meet" sLMeet (He.ga K "_law_meet") fdMe := funOf FMe0
  have gMe : mg "_law_meet" = some (.ref (He.ga K "_law_meet")) := He.glo_ok X G (cd.fact 49 (f := .glo "_law_meet") rfl)
  have bMe := FMe.binds (ps := ["_law_one", "_law_other"]) fun _ _ _ _ _ _ us hl => match us, hl with | [_, _], _ => rfl
  obtain ⟨fdLy, FLy0⟩ := cd.def_ 22 (d := dOf ("_law_layers", none) "_law_layers" "_law_layers" sLLay [] []) rfl
  have FLy : Fun K "_law_layers" "_law_layers" sLLay (He.ga K "_law_layers") fdLy := funOf FLy0
  have gLy : mg "_law_layers" = some (.ref (He.ga K "_law_layers")) := He.glo_ok X G (cd.fact 50 (f := .glo "_law_layers") rfl)
  have bLy := FLy.binds (ps := ["_law_shapes_here", "_law_row_here"]) fun _ _ _ _ _ _ us hl => match us, hl with | [_, _], _ => rfl
  obtain ⟨fdIs, FIs0⟩ := cd.def_ 23 (d := dOf ("_law_heap_is", none) "_law_heap_is" "_law_heap_is" sHIs [] []) rfl
  have FIs : Fun K "_law_heap_is" "_law_heap_is" sHIs (He.ga K "_law_heap_is") fdIs := funOf FIs0
  have gIs : mg "_law_heap_is" = some (.ref (He.ga K "_law_heap_is")) := He.glo_ok X G (cd.fact 51 (f := .glo "_law_heap_is") rfl)
  have bIs := FIs.binds (ps := ["_law_heap", "_law_colours", "_law_shapes_here", "_law_row_here"]) fun _ _ _ _ _ _ us hl => match us, hl with | [_, _, _, _], _ => rfl
  obtain ⟨fdT, FT0⟩ := cd.def_ 24 (d := dOf ("_law_tried", none) "_law_tried" "_law_tried" sTried [] []) rfl
  have FT : Fun K "_law_tried" "_law_tried" sTried (He.ga K "_law_tried") fdT := funOf FT0
  have gT : mg "_law_tried" = some (.ref (He.ga K "_law_tried")) := He.glo_ok X G (cd.fact 52 (f := .glo "_law_tried") rfl)
  have bT := FT.binds (ps := ["_law_act"]) fun _ _ _ _ _ _ us hl => match us, hl with | [_], _ => rfl
  obtain ⟨fdwo, Fwo0⟩ := cd.def_ 25 (d := dOf ("row_without", none) "row_without" "row_without" sRWo [] []) rfl
  have Fwo : Fun K "row_without" "row_without" sRWo (He.ga K "row_without") fdwo := funOf Fwo0
  have gwo : mg "row_without" = some (.ref (He.ga K "row_without")) := He.glo_ok X G (cd.fact 53 (f := .glo "row_without") rfl)
  have bwo := Fwo.binds (ps := ["row", "gone"]) fun _ _ _ _ _ _ us hl => match us, hl with | [_, _], _ => rfl
  obtain ⟨fdbg, Fbg0⟩ := cd.def_ 26 (d := dOf ("beginning_of", none) "beginning_of" "beginning_of" sBeg [] []) rfl
  have Fbg : Fun K "beginning_of" "beginning_of" sBeg (He.ga K "beginning_of") fdbg := funOf Fbg0
  have gbg : mg "beginning_of" = some (.ref (He.ga K "beginning_of")) := He.glo_ok X G (cd.fact 54 (f := .glo "beginning_of") rfl)
  have bbg := Fbg.binds (ps := ["heap", "stays"]) fun _ _ _ _ _ _ us hl => match us, hl with | [_, _], _ => rfl
  obtain ⟨fdnx, Fnx0⟩ := cd.def_ 27 (d := dOf ("is_next", none) "is_next" "is_next" sNext [] []) rfl
  have Fnx : Fun K "is_next" "is_next" sNext (He.ga K "is_next") fdnx := funOf Fnx0
  have gnx : mg "is_next" = some (.ref (He.ga K "is_next")) := He.glo_ok X G (cd.fact 55 (f := .glo "is_next") rfl)
  have bnx := Fnx.binds (ps := ["columns", "pads", "places", "figure"]) fun _ _ _ _ _ _ us hl => match us, hl with | [_, _, _, _], _ => rfl
  obtain ⟨fdfu, Ffu0⟩ := cd.def_ 28 (d := dOf ("first_unlike", none) "first_unlike" "first_unlike" sFU [] []) rfl
  have Ffu : Fun K "first_unlike" "first_unlike" sFU (He.ga K "first_unlike") fdfu := funOf Ffu0
  have gfu : mg "first_unlike" = some (.ref (He.ga K "first_unlike")) := He.glo_ok X G (cd.fact 56 (f := .glo "first_unlike") rfl)
  have bfu := Ffu.binds (ps := ["some", "others"]) fun _ _ _ _ _ _ us hl => match us, hl with | [_, _], _ => rfl
  obtain ⟨fdW, FW0⟩ := cd.def_ 29 (d := dOf ("law", none) "law" "law" sLaw [] []) rfl
  have FW : Fun K "law" "law" sLaw (He.ga K "law") fdW := funOf FW0
  have gW : mg "law" = some (.ref (He.ga K "law")) := He.glo_ok X G (cd.fact 57 (f := .glo "law") rfl)
  obtain ⟨fdb_Missing, Fb_Missing⟩ := cd.def_ 30 (d := dOf ("Missing", some "__init__") "__init__" "Missing.__init__" sI_Missing [.str "Missing"] []) rfl
  have mb_Missing : mg "Missing" = some (.ref (He.ga K "Missing")) := He.glo_ok X G (cd.fact 58 (f := .glo "Missing") rfl)
  obtain ⟨fdx_NoFigure, Fx_NoFigure⟩ := cd.def_ 31 (d := dOf ("NoFigure", some "__init__") "__init__" "NoFigure.__init__" sI_NoFigure [] []) rfl
  have mx_NoFigure : mg "NoFigure" = some (.ref (He.ga K "NoFigure")) := He.glo_ok X G (cd.fact 59 (f := .glo "NoFigure") rfl)
  have R_NoFigure : ∀ (base : Heap) (j : Nat), 2 ≤ j → ExcK l.prog w K mg base j "NoFigure" (He.ga K "NoFigure") 1 (fun ws => [("figure", ws.getD 0 .non), ("word", .str "NoFigure")]) := fun base j hj => exk_NoFigure (leafL x1) (funOf Fx_NoFigure) Fb_Missing mx_NoFigure mb_Missing hj
  obtain ⟨fdx_NoPad, Fx_NoPad⟩ := cd.def_ 32 (d := dOf ("NoPad", some "__init__") "__init__" "NoPad.__init__" sI_NoPad [] []) rfl
  have mx_NoPad : mg "NoPad" = some (.ref (He.ga K "NoPad")) := He.glo_ok X G (cd.fact 60 (f := .glo "NoPad") rfl)
  have R_NoPad : ∀ (base : Heap) (j : Nat), 2 ≤ j → ExcK l.prog w K mg base j "NoPad" (He.ga K "NoPad") 1 (fun ws => [("pad", ws.getD 0 .non), ("word", .str "NoPad")]) := fun base j hj => exk_NoPad (leafL x2) (funOf Fx_NoPad) Fb_Missing mx_NoPad mb_Missing hj
  obtain ⟨fdb_TearError, Fb_TearError⟩ := cd.def_ 33 (d := dOf ("TearError", some "__init__") "__init__" "TearError.__init__" sI_TearError [.str "TearError"] []) rfl
  have mb_TearError : mg "TearError" = some (.ref (He.ga K "TearError")) := He.glo_ok X G (cd.fact 61 (f := .glo "TearError") rfl)
  obtain ⟨fdx_OtherBook, Fx_OtherBook⟩ := cd.def_ 34 (d := dOf ("OtherBook", some "__init__") "__init__" "OtherBook.__init__" sI_OtherBook [] []) rfl
  have mx_OtherBook : mg "OtherBook" = some (.ref (He.ga K "OtherBook")) := He.glo_ok X G (cd.fact 62 (f := .glo "OtherBook") rfl)
  have R_OtherBook : ∀ (base : Heap) (j : Nat), 2 ≤ j → ExcK l.prog w K mg base j "OtherBook" (He.ga K "OtherBook") 0 (fun ws => [("word", .str "OtherBook")]) := fun base j hj => exk_OtherBook (leafV x3) (funOf Fx_OtherBook) Fb_TearError mx_OtherBook mb_TearError hj
  obtain ⟨fdx_NoBeginning, Fx_NoBeginning⟩ := cd.def_ 35 (d := dOf ("NoBeginning", some "__init__") "__init__" "NoBeginning.__init__" sI_NoBeginning [] []) rfl
  have mx_NoBeginning : mg "NoBeginning" = some (.ref (He.ga K "NoBeginning")) := He.glo_ok X G (cd.fact 63 (f := .glo "NoBeginning") rfl)
  have R_NoBeginning : ∀ (base : Heap) (j : Nat), 2 ≤ j → ExcK l.prog w K mg base j "NoBeginning" (He.ga K "NoBeginning") 0 (fun ws => [("word", .str "NoBeginning")]) := fun base j hj => exk_NoBeginning (leafV x4) (funOf Fx_NoBeginning) Fb_TearError mx_NoBeginning mb_TearError hj
  obtain ⟨fdx_Barred, Fx_Barred⟩ := cd.def_ 36 (d := dOf ("Barred", some "__init__") "__init__" "Barred.__init__" sI_Barred [] []) rfl
  have mx_Barred : mg "Barred" = some (.ref (He.ga K "Barred")) := He.glo_ok X G (cd.fact 64 (f := .glo "Barred") rfl)
  have R_Barred : ∀ (base : Heap) (j : Nat), 2 ≤ j → ExcK l.prog w K mg base j "Barred" (He.ga K "Barred") 1 (fun ws => [("pad", ws.getD 0 .non), ("word", .str "Barred")]) := fun base j hj => exk_Barred (leafV x5) (funOf Fx_Barred) Fb_TearError mx_Barred mb_TearError hj
  have g_Bk : mg "Book" = some (.ref (He.ga K "Book")) := He.glo_ok X G (cd.fact 65 (f := .glo "Book") rfl)
  have cl_Bk : Cls K (He.ga K "Book") := He.cls_ok (cd.fact 66 (f := .cls "Book") rfl)
  have nBk_palette : NoAttr K (He.ga K "Book") "palette" := He.noat_ok (cd.fact 67 (f := .noat "Book" "palette") rfl)
  have nBk_shapes : NoAttr K (He.ga K "Book") "shapes" := He.noat_ok (cd.fact 68 (f := .noat "Book" "shapes") rfl)
  have mk_Bk : Mk K (He.ga K "Book") (He.ma K (He.ga K "Book") "__init__") := He.mkr_ok (cd.fact 69 (f := .mkr "Book") rfl)
  obtain ⟨fdIn, FIn0⟩ := cd.def_ 37 (d := dOf ("Book", some "__init__") "__init__" "Book.__init__" sInit [] [("figures", .adr emptyT)]) rfl
  have mIn : Meth K (He.ga K "Book") "__init__" (He.ma K (He.ga K "Book") "__init__") := He.meth_ok (cd.fact 70 (f := .meth "Book" "__init__") rfl)
  obtain ⟨fdbPd, FbPd0⟩ := cd.def_ 38 (d := dOf ("Book", some "pads") "pads" "Book.pads" sPadsM [] []) rfl
  have FbPd : Fun K "pads" "Book.pads" sPadsM (He.ma K (He.ga K "Book") "pads") fdbPd := funOf FbPd0
  have bbPd := FbPd.binds (ps := ["self"]) fun _ _ _ _ _ _ us hl => match us, hl with | [_], _ => rfl
  have mbPd : Meth K (He.ga K "Book") "pads" (He.ma K (He.ga K "Book") "pads") := He.meth_ok (cd.fact 71 (f := .meth "Book" "pads") rfl)
  obtain ⟨fdbSh, FbSh0⟩ := cd.def_ 39 (d := dOf ("Book", some "shape") "shape" "Book.shape" sShpX [] []) rfl
  have FbSh : Fun K "shape" "Book.shape" sShpX (He.ma K (He.ga K "Book") "shape") fdbSh := funOf FbSh0
  have bbSh := FbSh.binds (ps := ["self", "at"]) fun _ _ _ _ _ _ us hl => match us, hl with | [_, _], _ => rfl
  have mbSh : Meth K (He.ga K "Book") "shape" (He.ma K (He.ga K "Book") "shape") := He.meth_ok (cd.fact 72 (f := .meth "Book" "shape") rfl)
  obtain ⟨fdbEq, FbEq0⟩ := cd.def_ 40 (d := dOf ("Book", some "__eq__") "__eq__" "Book.__eq__" sBEq [] []) rfl
  have FbEq : Fun K "__eq__" "Book.__eq__" sBEq (He.ma K (He.ga K "Book") "__eq__") fdbEq := funOf FbEq0
  have bbEq := FbEq.binds (ps := ["self", "other"]) fun _ _ _ _ _ _ us hl => match us, hl with | [_, _], _ => rfl
  have mbEq : Meth K (He.ga K "Book") "__eq__" (He.ma K (He.ga K "Book") "__eq__") := He.meth_ok (cd.fact 73 (f := .meth "Book" "__eq__") rfl)
  have g_Hp : mg "Heap" = some (.ref (He.ga K "Heap")) := He.glo_ok X G (cd.fact 74 (f := .glo "Heap") rfl)
  have cl_Hp : Cls K (He.ga K "Heap") := He.cls_ok (cd.fact 75 (f := .cls "Heap") rfl)
  have nHp_owner : NoAttr K (He.ga K "Heap") "owner" := He.noat_ok (cd.fact 76 (f := .noat "Heap" "owner") rfl)
  have nHp_tiers : NoAttr K (He.ga K "Heap") "tiers" := He.noat_ok (cd.fact 77 (f := .noat "Heap" "tiers") rfl)
  have mk_Hp : Mk K (He.ga K "Heap") (He.ma K (He.ga K "Heap") "__init__") := He.mkr_ok (cd.fact 78 (f := .mkr "Heap") rfl)
  obtain ⟨fdhIn, FhIn0⟩ := cd.def_ 41 (d := dOf ("Heap", some "__init__") "__init__" "Heap.__init__" sHInit [.adr emptyH] []) rfl
  have mhIn : Meth K (He.ga K "Heap") "__init__" (He.ma K (He.ga K "Heap") "__init__") := He.meth_ok (cd.fact 79 (f := .meth "Heap" "__init__") rfl)
  obtain ⟨fdhBk, FhBk0⟩ := cd.def_ 42 (d := dOf ("Heap", some "book") "book" "Heap.book" sHBook [] []) rfl
  have FhBk : Fun K "book" "Heap.book" sHBook (He.ma K (He.ga K "Heap") "book") fdhBk := funOf FhBk0
  have bhBk := FhBk.binds (ps := ["self"]) fun _ _ _ _ _ _ us hl => match us, hl with | [_], _ => rfl
  have mhBk : Meth K (He.ga K "Heap") "book" (He.ma K (He.ga K "Heap") "book") := He.meth_ok (cd.fact 80 (f := .meth "Heap" "book") rfl)
  obtain ⟨fdhLy, FhLy0⟩ := cd.def_ 43 (d := dOf ("Heap", some "layers") "layers" "Heap.layers" sHLay [] []) rfl
  have FhLy : Fun K "layers" "Heap.layers" sHLay (He.ma K (He.ga K "Heap") "layers") fdhLy := funOf FhLy0
  have bhLy := FhLy.binds (ps := ["self"]) fun _ _ _ _ _ _ us hl => match us, hl with | [_], _ => rfl
  have mhLy : Meth K (He.ga K "Heap") "layers" (He.ma K (He.ga K "Heap") "layers") := He.meth_ok (cd.fact 81 (f := .meth "Heap" "layers") rfl)
  obtain ⟨fdhRw, FhRw0⟩ := cd.def_ 44 (d := dOf ("Heap", some "row") "row" "Heap.row" sHRow [] []) rfl
  have FhRw : Fun K "row" "Heap.row" sHRow (He.ma K (He.ga K "Heap") "row") fdhRw := funOf FhRw0
  have bhRw := FhRw.binds (ps := ["self"]) fun _ _ _ _ _ _ us hl => match us, hl with | [_], _ => rfl
  have mhRw : Meth K (He.ga K "Heap") "row" (He.ma K (He.ga K "Heap") "row") := He.meth_ok (cd.fact 82 (f := .meth "Heap" "row") rfl)
  obtain ⟨fdhPl, FhPl0⟩ := cd.def_ 45 (d := dOf ("Heap", some "plus") "plus" "Heap.plus" sHPlus [] []) rfl
  have FhPl : Fun K "plus" "Heap.plus" sHPlus (He.ma K (He.ga K "Heap") "plus") fdhPl := funOf FhPl0
  have bhPl := FhPl.binds (ps := ["self", "other"]) fun _ _ _ _ _ _ us hl => match us, hl with | [_, _], _ => rfl
  have mhPl : Meth K (He.ga K "Heap") "plus" (He.ma K (He.ga K "Heap") "plus") := He.meth_ok (cd.fact 83 (f := .meth "Heap" "plus") rfl)
  obtain ⟨fdhCk, FhCk0⟩ := cd.def_ 46 (d := dOf ("Heap", some "check_book") "check_book" "Heap.check_book" sHChk [] []) rfl
  have FhCk : Fun K "check_book" "Heap.check_book" sHChk (He.ma K (He.ga K "Heap") "check_book") fdhCk := funOf FhCk0
  have bhCk := FhCk.binds (ps := ["self", "other"]) fun _ _ _ _ _ _ us hl => match us, hl with | [_, _], _ => rfl
  have mhCk : Meth K (He.ga K "Heap") "check_book" (He.ma K (He.ga K "Heap") "check_book") := He.meth_ok (cd.fact 84 (f := .meth "Heap" "check_book") rfl)
  obtain ⟨fdhLn, FhLn0⟩ := cd.def_ 47 (d := dOf ("Heap", some "__len__") "__len__" "Heap.__len__" sHLen [] []) rfl
  have FhLn : Fun K "__len__" "Heap.__len__" sHLen (He.ma K (He.ga K "Heap") "__len__") fdhLn := funOf FhLn0
  have bhLn := FhLn.binds (ps := ["self"]) fun _ _ _ _ _ _ us hl => match us, hl with | [_], _ => rfl
  have mhLn : Meth K (He.ga K "Heap") "__len__" (He.ma K (He.ga K "Heap") "__len__") := He.meth_ok (cd.fact 85 (f := .meth "Heap" "__len__") rfl)
  obtain ⟨fdhEq, FhEq0⟩ := cd.def_ 48 (d := dOf ("Heap", some "__eq__") "__eq__" "Heap.__eq__" sHEq [] []) rfl
  have FhEq : Fun K "__eq__" "Heap.__eq__" sHEq (He.ma K (He.ga K "Heap") "__eq__") fdhEq := funOf FhEq0
  have bhEq := FhEq.binds (ps := ["self", "other"]) fun _ _ _ _ _ _ us hl => match us, hl with | [_, _], _ => rfl
  have mhEq : Meth K (He.ga K "Heap") "__eq__" (He.ma K (He.ga K "Heap") "__eq__") := He.meth_ok (cd.fact 86 (f := .meth "Heap" "__eq__") rfl)
  obtain ⟨fdhOn, FhOn0⟩ := cd.def_ 49 (d := dOf ("Heap", some "on") "on" "Heap.on" sHOn [] []) rfl
  have FhOn : Fun K "on" "Heap.on" sHOn (He.ma K (He.ga K "Heap") "on") fdhOn := funOf FhOn0
  have bhOn := FhOn.binds (ps := ["self", "pad"]) fun _ _ _ _ _ _ us hl => match us, hl with | [_, _], _ => rfl
  have mhOn : Meth K (He.ga K "Heap") "on" (He.ma K (He.ga K "Heap") "on") := He.meth_ok (cd.fact 87 (f := .meth "Heap" "on") rfl)
  obtain ⟨fdhCo, FhCo0⟩ := cd.def_ 50 (d := dOf ("Heap", some "columns") "columns" "Heap.columns" sHCols [] []) rfl
  have FhCo : Fun K "columns" "Heap.columns" sHCols (He.ma K (He.ga K "Heap") "columns") fdhCo := funOf FhCo0
  have bhCo := FhCo.binds (ps := ["self"]) fun _ _ _ _ _ _ us hl => match us, hl with | [_], _ => rfl
  have mhCo : Meth K (He.ga K "Heap") "columns" (He.ma K (He.ga K "Heap") "columns") := He.meth_ok (cd.fact 88 (f := .meth "Heap" "columns") rfl)
  obtain ⟨fdhMt, FhMt0⟩ := cd.def_ 51 (d := dOf ("Heap", some "meet") "meet" "Heap.meet" sHMeet [] []) rfl
  have FhMt : Fun K "meet" "Heap.meet" sHMeet (He.ma K (He.ga K "Heap") "meet") fdhMt := funOf FhMt0
  have bhMt := FhMt.binds (ps := ["self", "other"]) fun _ _ _ _ _ _ us hl => match us, hl with | [_, _], _ => rfl
  have mhMt : Meth K (He.ga K "Heap") "meet" (He.ma K (He.ga K "Heap") "meet") := He.meth_ok (cd.fact 89 (f := .meth "Heap" "meet") rfl)
  obtain ⟨fdhBg, FhBg0⟩ := cd.def_ 52 (d := dOf ("Heap", some "begins") "begins" "Heap.begins" sHBeg [] []) rfl
  have FhBg : Fun K "begins" "Heap.begins" sHBeg (He.ma K (He.ga K "Heap") "begins") fdhBg := funOf FhBg0
  have bhBg := FhBg.binds (ps := ["self", "other"]) fun _ _ _ _ _ _ us hl => match us, hl with | [_, _], _ => rfl
  have mhBg : Meth K (He.ga K "Heap") "begins" (He.ma K (He.ga K "Heap") "begins") := He.meth_ok (cd.fact 90 (f := .meth "Heap" "begins") rfl)
  obtain ⟨fdhLs, FhLs0⟩ := cd.def_ 53 (d := dOf ("Heap", some "less") "less" "Heap.less" sHLess [] []) rfl
  have FhLs : Fun K "less" "Heap.less" sHLess (He.ma K (He.ga K "Heap") "less") fdhLs := funOf FhLs0
  have bhLs := FhLs.binds (ps := ["self", "other"]) fun _ _ _ _ _ _ us hl => match us, hl with | [_, _], _ => rfl
  have mhLs : Meth K (He.ga K "Heap") "less" (He.ma K (He.ga K "Heap") "less") := He.meth_ok (cd.fact 91 (f := .meth "Heap" "less") rfl)
  obtain ⟨fdhTk, FhTk0⟩ := cd.def_ 54 (d := dOf ("Heap", some "taken") "taken" "Heap.taken" sHTkn [] []) rfl
  have FhTk : Fun K "taken" "Heap.taken" sHTkn (He.ma K (He.ga K "Heap") "taken") fdhTk := funOf FhTk0
  have bhTk := FhTk.binds (ps := ["self"]) fun _ _ _ _ _ _ us hl => match us, hl with | [_], _ => rfl
  have mhTk : Meth K (He.ga K "Heap") "taken" (He.ma K (He.ga K "Heap") "taken") := He.meth_ok (cd.fact 92 (f := .meth "Heap" "taken") rfl)
  obtain ⟨fdhJn, FhJn0⟩ := cd.def_ 55 (d := dOf ("Heap", some "joined") "joined" "Heap.joined" sHJoin [] []) rfl
  have FhJn : Fun K "joined" "Heap.joined" sHJoin (He.ma K (He.ga K "Heap") "joined") fdhJn := funOf FhJn0
  have bhJn := FhJn.binds (ps := ["self", "other"]) fun _ _ _ _ _ _ us hl => match us, hl with | [_, _], _ => rfl
  have mhJn : Meth K (He.ga K "Heap") "joined" (He.ma K (He.ga K "Heap") "joined") := He.meth_ok (cd.fact 93 (f := .meth "Heap" "joined") rfl)
  obtain ⟨fdhPt, FhPt0⟩ := cd.def_ 56 (d := dOf ("Heap", some "parted") "parted" "Heap.parted" sHPtd [] []) rfl
  have FhPt : Fun K "parted" "Heap.parted" sHPtd (He.ma K (He.ga K "Heap") "parted") fdhPt := funOf FhPt0
  have bhPt := FhPt.binds (ps := ["self", "other"]) fun _ _ _ _ _ _ us hl => match us, hl with | [_, _], _ => rfl
  have mhPt : Meth K (He.ga K "Heap") "parted" (He.ma K (He.ga K "Heap") "parted") := He.meth_ok (cd.fact 94 (f := .meth "Heap" "parted") rfl)
  have m_len : mg "len" = none := He.free_ok X G (cd.fact 95 (f := .free "len") rfl)
  have m_list : mg "list" = none := He.free_ok X G (cd.fact 96 (f := .free "list") rfl)
  have m_tuple : mg "tuple" = none := He.free_ok X G (cd.fact 97 (f := .free "tuple") rfl)
  have m_range : mg "range" = none := He.free_ok X G (cd.fact 98 (f := .free "range") rfl)
  have m_isinstance : mg "isinstance" = none := He.free_ok X G (cd.fact 99 (f := .free "isinstance") rfl)
  have m_all : mg "all" = none := He.free_ok X G (cd.fact 100 (f := .free "all") rfl)
  have m_any : mg "any" = none := He.free_ok X G (cd.fact 101 (f := .free "any") rfl)
  have m_bool : mg "bool" = none := He.free_ok X G (cd.fact 102 (f := .free "bool") rfl)
  have m_int : mg "int" = none := He.free_ok X G (cd.fact 103 (f := .free "int") rfl)
  have m_str : mg "str" = none := He.free_ok X G (cd.fact 104 (f := .free "str") rfl)
  have m_dict : mg "dict" = none := He.free_ok X G (cd.fact 105 (f := .free "dict") rfl)
  have m_enumerate : mg "enumerate" = none := He.free_ok X G (cd.fact 106 (f := .free "enumerate") rfl)
  have m_zip : mg "zip" = none := He.free_ok X G (cd.fact 107 (f := .free "zip") rfl)
  have m_max : mg "max" = none := He.free_ok X G (cd.fact 108 (f := .free "max") rfl)
  have m_sorted : mg "sorted" = none := He.free_ok X G (cd.fact 109 (f := .free "sorted") rfl)
  have m_sum : mg "sum" = none := He.free_ok X G (cd.fact 110 (f := .free "sum") rfl)
  obtain ⟨tk1, w_1⟩ := He.int_ok X G (cd.fact 111 (f := .int "MOST_PADS" 6) rfl)
  obtain ⟨tk2, w_2⟩ := He.int_ok X G (cd.fact 112 (f := .int "MOST_COLOURS" 4) rfl)
  obtain ⟨tk3, w_3⟩ := He.int_ok X G (cd.fact 113 (f := .int "MOST_FIGURES" 12) rfl)
  obtain ⟨tk4, w_4⟩ := He.int_ok X G (cd.fact 114 (f := .int "MOST_DEPTH" 3) rfl)
  have e := hfa.symm.trans gW
  cases e
  obtain ⟨ocW, odW, kVW, dcW, pmW, anW, cdW, ctW, slW, eW, lW, cW⟩ := FW.ex
  subst eW
  obtain ⟨cLw, rfl⟩ := He.codeIn_ref cW
  have eC0 : He.codeOf K (("law", none) : He.Defn) = cLw := He.codeOf_eq (p := ("law", none)) lW rfl
  have hm0 : (("law", none) : He.Defn) ∈ hTf := List.mem_cons_self
  have hd0 := c.hd _ hm0
  have ho0 := c.out _ hm0
  have he0 := c.empty _ hm0
  have e10 : (He.cT K (("law", none) : He.Defn)).1 = cLw := eC0
  generalize hp0 : (He.cT K (("law", none) : He.Defn)).2 = pLw at hd0 ho0 he0
  rw [e10] at hd0
  obtain ⟨oc_hMt, od_hMt, kV_hMt, dc_hMt, pm_hMt, an_hMt, cd_hMt, ct_hMt, sl_hMt, e_hMt, l_hMt, k_hMt⟩ := FhMt.ex
  subst e_hMt
  obtain ⟨c_hMt, rfl⟩ := He.codeIn_ref k_hMt
  have eC1 : He.codeOf K (("Heap", some "meet") : He.Defn) = c_hMt := He.codeOf_eq (p := ("Heap", some "meet")) l_hMt rfl
  have hm1 : (("Heap", some "meet") : He.Defn) ∈ hTf := List.mem_cons_of_mem _ (List.mem_singleton.mpr rfl)
  have hd1 := c.hd _ hm1
  have ho1 := c.out _ hm1
  have he1 := c.empty _ hm1
  have e11 : (He.cT K (("Heap", some "meet") : He.Defn)).1 = c_hMt := eC1
  generalize hp1 : (He.cT K (("Heap", some "meet") : He.Defn)).2 = p_hMt at hd1 ho1 he1
  rw [e11] at hd1
  refine ⟨PySem.W.fnOf "law" "law" (defArgs sLaw) (defBody sLaw) (defScope sLaw) .none kVW dcW pmW anW (.ref cLw) ctW, [(cLw, pLw), (c_hMt, p_hMt)], spLaw K pLw p_hMt, fun p hp => ?_, fun p hp => ?_, fun p hp => ?_, fun s u => .of_eq rfl, fun H a ns h1 h2 h3 h4 => ?_, fun base hK hN hTB => ?_⟩
  · rcases List.mem_cons.mp hp with rfl | hp
    · exact he0
    · rw [List.mem_singleton.mp hp]
      exact he1
  · rcases List.mem_cons.mp hp with rfl | hp
    · exact ho0
    · rw [List.mem_singleton.mp hp]
      exact ho1
  · rcases List.mem_cons.mp hp with rfl | hp
    · exact PySem.W.codeHd_of_K X hd0
    · rw [List.mem_singleton.mp hp]
      exact PySem.W.codeHd_of_K X hd1
  · exact ⟨a, ns, rfl, h4, h1, h3 (cLw, pLw) (List.mem_cons_self), h3 (c_hMt, p_hMt) (List.mem_cons_of_mem _ (List.mem_singleton.mpr rfl)), fun _ => rfl⟩
  have tb : LamX.TabB base mg cLw pLw := hTB (cLw, pLw) (List.mem_cons_self)
  have tb_hMt : LamX.TabB base mg c_hMt p_hMt := hTB (c_hMt, p_hMt) (List.mem_cons_of_mem _ (List.mem_singleton.mpr rfl))
  have TB : BkTxt K mg (He.ga K "Book") := ⟨cl_Bk, nBk_palette, nBk_shapes, g_Bk⟩
  have TH : HpTxt K mg (He.ga K "Heap") := ⟨cl_Hp, nHp_owner, nHp_tiers, g_Hp⟩
  have M : LkG mg := ⟨m_isinstance, m_tuple, m_list, m_len, m_all, m_range, m_bool, m_int, m_str⟩
  obtain ⟨mvI, kbI⟩ := FIn0.kbinds0 (ps := ["self", "colours", "figures"]) 2 ["figures"] [] (fun us mv ws => us ++ ws) (List.cons_ne_nil _ _) (fun q hq => by cases hq) (fun r1 r2 r3 => r1.append r3) (fun D doc pm an cdv ct us mv ws l1 l2 l3 => match us, mv, ws, l1, l2, l3 with | [_, _], [], [_], _, _, _ => rfl)
  obtain ⟨dsH, vH, bH0⟩ := FhIn0.binds1 (ps := ["self", "book", "row"]) 2 0 (List.cons_ne_nil _ _) rfl (fun T kV doc pm an cdv ct us its l1 l2 => match us, its, l1, l2 with | [_, _], [_], _, _ => ⟨_, rfl, rfl⟩)
  obtain ⟨ds3, v3, b3⟩ := FhIn0.binds1 (ps := ["self", "book", "row"]) 3 1 (List.cons_ne_nil _ _) rfl (fun T kV doc pm an cdv ct us its l1 l2 => match us, its, l1, l2 with | [_, _, _], [_], _, _ => ⟨_, rfl, rfl⟩)
  have e3 : ds3 = [] := List.eq_nil_of_length_eq_zero v3.length.symm
  subst e3
  have tT := emptyB_ok x9
  have TBE := clsEB_ok x6
  have THE := clsEB_ok x7
  have THN := lenB_ok x8
  have Gms : FnOk l.prog w K mg base CX0 2 _ _ ["figure"] (spMask K) := ok_mask (k := 1) Fms m_sum
  have Gba : FnOk l.prog w K mg base CX0 2 _ _ ["one", "other"] (spBar K) := ok_bar (k := 1) Fba m_any
  have Gfi : FnOk l.prog w K mg base CX0 2 _ _ ["colours", "figure"] (spIsFig K) := ok_isfig (k := 0) Ffi m_len m_all m_zip w_4 Fti bti gti Fpo_ bpo_ gpo_
  have Gcc : FnOk l.prog w K mg base CX0 3 _ _ ["colours"] (spCCol K) := ok_ccol (k := 2) Fcc m_len m_enumerate w_1 w_2
  have Gcy : FnOk l.prog w K mg base CX0 3 _ _ ["figure"] (spCopyF K) := ok_copyf (k := 2) Fcy m_tuple
  have GIn : FnOk l.prog w K mg base CX0 4 _ _ ["self", "colours", "figures"] (spInit K (He.ga K "Book")) := ok_init (k := 3) FIn0 TB m_len m_tuple w_3 Fcc bcc gcc Gcc Fcf bcf gcf (ok_cfig Fcf m_enumerate Ffi bfi gfi Gfi) Fcm bcm gcm (ok_cmeet Fcm m_enumerate m_range m_len Fms bms gms Gms Fba bba gba Gba) Fcy bcy gcy Gcy
  have Gpo (k : Nat) : FnOk l.prog w K mg base CX0 (k + 1) _ _ ["figure"] (spPads K) := ok_padsof (k := k) Fpo_
  have Gbp (k : Nat) : FnOk l.prog w K mg base CX0 (k + 1) _ _ ["self"] (spPadsM K (He.ga K "Book")) := ok_padsM (k := k) FbPd TB m_len
  have Gbs : FnOk l.prog w K mg base (L2.CX l.prog w) 5 _ _ ["self", "at"] (spShpX K (He.ga K "Book") (He.ga K "NoFigure")) := ok_shpX (k := 3) FbSh TB m_len (R_NoFigure base 3 (by decide))
  have Gtr : FnOk l.prog w K mg base (L2.CX l.prog w) 6 _ _ ["book", "row"] (spTiers K (He.ga K "Book") (He.ga K "NoFigure")) := ok_tiers (k := 5) Ftr TB m_len m_max m_tuple m_sorted Fpo_ bpo_ gpo_ (Gpo 4) bbSh mbSh Gbs bbPd mbPd (Gbp 4)
  have GhI : FnOk l.prog w K mg base (L2.CX l.prog w) 7 _ _ ["self", "book", "row"] (spHInit K (He.ga K "Book") (He.ga K "Heap") (He.ga K "NoFigure")) := ok_hinit (k := 6) FhIn0 TH Ftr btr gtr Gtr
  have GhR (k : Nat) : FnOk l.prog w K mg base CX0 (k + 1) _ _ ["self"] (spHRow K (He.ga K "Heap")) := ok_hrow (k := k) FhRw TH
  have GhL (k : Nat) : FnOk l.prog w K mg base CX0 (k + 1) _ _ ["self"] (spHLay K (He.ga K "Heap")) := ok_hlay (k := k) FhLy TH m_list
  have Gbe (k : Nat) : FnOk l.prog w K mg base CX0 (k + 1) _ _ ["self", "other"] (spBEq K (He.ga K "Book")) := ok_beq (k := k) FbEq TB TBE m_isinstance
  have Ghe (k : Nat) : FnOk l.prog w K mg base CX0 (k + 2) _ _ ["self", "other"] (spHEq K (He.ga K "Book") (He.ga K "Heap")) := ok_heq (k := k + 1) FhEq TH THE TB TBE m_isinstance bbEq (Gbe k)
  have GhN (k : Nat) : FnOk l.prog w K mg base CX0 (k + 2) _ _ ["self"] (spHLen K (He.ga K "Heap")) := ok_hlen (k := k + 1) FhLn TH m_len bhRw mhRw (GhR k)
  have GhB (k : Nat) : FnOk l.prog w K mg base CX0 (k + 1) _ _ ["self"] (spHBook K (He.ga K "Heap")) := ok_hbook (k := k) FhBk TH
  have GhC : FnOk l.prog w K mg base (L2.CX l.prog w) 5 _ _ ["self", "other"] (spHChk K (He.ga K "Book") (He.ga K "Heap") (He.ga K "OtherBook")) := ok_hchk (k := 3) FhCk TH TB TBE (R_OtherBook base 3 (by decide)) bbEq (Gbe 2) bhBk mhBk (GhB 3)
  have GhP : FnOk l.prog w K mg base (L2.CX l.prog w) 9 _ _ ["self", "other"] (spHPlus K (He.ga K "Book") (He.ga K "Heap") (He.ga K "OtherBook")) := ok_hplus (k := 7) FhPl TH bhCk mhCk (GhC.mono (by decide)) bhRw mhRw (GhR 7) mk_Hp GhI b3
  have GhO : FnOk l.prog w K mg base (L2.CX l.prog w) 6 _ _ ["self", "pad"] (spHOn K (He.ga K "Book") (He.ga K "Heap") (He.ga K "NoPad")) := ok_hon (k := 4) FhOn TH TB (R_NoPad base 4 (by decide)) Fpo_ bpo_ gpo_ (Gpo 4) bhRw mhRw (GhR 4) bbSh mbSh (shpC Gbs) bbPd mbPd (Gbp 4)
  have GhCo : FnOk l.prog w K mg base CX0 7 _ _ ["self"] (spHCols K (He.ga K "Book") (He.ga K "Heap")) := ok_hcols (k := 6) FhCo TH TB m_range bhOn mhOn (honC GhO) bbPd mbPd (Gbp 5)
  have GP (k : Nat) : FnOk l.prog w K mg base CX0 (k + 1) _ _ ["_law_bag_here", "_law_size"] spPull := ok_pull (k := k) FP m_len
  have GB (k : Nat) : FnOk l.prog w K mg base CX0 (k + 1) _ _ ["_law_script"] (spBag K) := ok_bag (k := k) FB m_len m_list
  have GO (k : Nat) : FnOk l.prog w K mg base CX0 (k + 2) _ _ ["_law_bag_here", "_law_things"] spOf := ok_of (k := k) FO m_len FP bP gP
  have GHu : FnOk l.prog w K mg base CX0 3 _ _ ["_law_bag_here", "_law_most"] spHues := ok_hues (k := 2) FHu m_range FP bP gP (GP 1) FO bO gO (GO 0)
  have GSp : FnOk l.prog w K mg base CX0 3 _ _ ["_law_bag_here", "_law_colours"] (spShape K) := ok_shape (k := 2) FSp m_range m_len m_tuple FP bP gP (GP 1) FO bO gO (GO 0)
  have GBa : FnOk l.prog w K mg base CX0 3 _ _ ["_law_one", "_law_other"] (spBars K) := ok_bars (k := 2) FBa m_dict m_any
  have GSs : FnOk l.prog w K mg base CX0 4 _ _ ["_law_bag_here", "_law_colours", "_law_most"] (spShapes K) := ok_shapes (k := 3) FSs m_range m_all FSp bSp gSp GSp FBa bBa gBa GBa
  have GSc : FnOk l.prog w K mg base CX0 6 _ _ ["_law_bag_here", "_law_pads_here", "_law_my_figures"] (spScene K (He.ga K "Book")) := ok_scene (k := 4) FSc TB mk_Bk FHu bHu gHu (GHu.mono (by decide)) FSs bSs gSs (GSs.mono (by decide)) kbI GIn
  have GRo (k : Nat) : FnOk l.prog w K mg base CX0 (k + 2) _ _ ["_law_bag_here", "_law_shapes_here", "_law_most"] spLRow := ok_lrow (k := k + 1) FRo m_range m_len FP bP gP (GP k)
  have GPd (k : Nat) : FnOk l.prog w K mg base CX0 (k + 1) _ _ ["_law_shape_here"] (spPads K) := ok_lpads (k := k) FPd
  have GMe (k : Nat) : FnOk l.prog w K mg base CX0 (k + 2) _ _ ["_law_one", "_law_other"] (spLMeet K) := ok_lmeet (k := k + 1) FMe m_any FPd bPd gPd (GPd k)
  have GLy (k : Nat) : FnOk l.prog w K mg base CX0 (k + 3) _ _ ["_law_shapes_here", "_law_row_here"] (spLLay K) := ok_llay (k := k + 2) FLy m_range m_len m_max m_sorted FMe bMe gMe (GMe k)
  have GK : FnOk l.prog w K mg base CX0 5 _ _ ["_law_one", "_law_due"] (spLike K 5) := ok_like FK bK gK M 5
  have GIs : FnOk l.prog w K mg base CX0 9 _ _ ["_law_heap", "_law_colours", "_law_shapes_here", "_law_row_here"] (spHIs K (He.ga K "Book") (He.ga K "Heap")) := ok_his (k := 7) FIs TH TB m_len bhLy mhLy (GhL 7) FLy bLy gLy (GLy 5) FK bK gK ((ok_like FK bK gK M 4).mono (by decide)) THN bhLn (GhN 5) mk_Hp (hinitC GhI) b3 mk_Bk kbI (GIn.mono (by decide)) THE bhEq (Ghe 6)
  have GhMt : FnOk l.prog w K mg base (L2.CX l.prog w) 10 _ _ ["self", "other"] (spHMeet K (He.ga K "Book") (He.ga K "Heap") (He.ga K "OtherBook") p_hMt) := ok_hmeet (k := 7) l_hMt k_hMt tb_hMt TH TB m_any bhCk mhCk (GhC.mono (by decide)) bhCo mhCo (GhCo.mono (by decide)) Fbg bbg gbg Fnx bnx gnx (ok_next (k := 6) Fnx m_all) Fpo_ bpo_ gpo_ (Gpo 7) bhBk mhBk (GhB 7) bhRw mhRw (GhR 7) bbSh mbSh ((shpC Gbs).mono (by decide)) bbPd mbPd (Gbp 7) mk_Hp (hinitC GhI) b3
  have GhBg : FnOk l.prog w K mg base (L2.CX l.prog w) 8 _ _ ["self", "other"] (spHBeg K (He.ga K "Book") (He.ga K "Heap") (He.ga K "OtherBook")) := ok_hbeg (k := 6) FhBg TH m_all m_zip m_len bhCk mhCk (GhC.mono (by decide)) bhCo mhCo GhCo
  have Gwo (k : Nat) : FnOk l.prog w K mg base CX0 (k + 1) _ _ ["row", "gone"] (spRWo K) := ok_rwo (k := k) Fwo
  have GhLs : FnOk l.prog w K mg base (L2.CX l.prog w) 9 _ _ ["self", "other"] (spHLess K (He.ga K "Book") (He.ga K "Heap") (He.ga K "OtherBook") (He.ga K "NoBeginning")) := ok_hless (k := 7) FhLs TH (R_NoBeginning base 7 (by decide)) bhBg mhBg GhBg bhRw mhRw (GhR 7) Fwo bwo gwo (Gwo 7) mk_Hp GhI b3
  have GhTk : FnOk l.prog w K mg base CX0 6 _ _ ["self"] (spHTkn K (He.ga K "Book") (He.ga K "Heap")) := ok_htkn (k := 5) FhTk TH TB m_tuple bhRw mhRw (GhR 4) bbSh mbSh (shpC Gbs) bbPd mbPd (Gbp 4)
  have GhJn : FnOk l.prog w K mg base (L2.CX l.prog w) 11 _ _ ["self", "other"] (spHJoin K (He.ga K "Book") (He.ga K "Heap") (He.ga K "OtherBook") (He.ga K "Barred") p_hMt) := ok_hjoin (k := 9) FhJn TH (R_Barred base 9 (by decide)) m_enumerate m_zip bhMt mhMt GhMt bhLs mhLs ((hlessC GhLs).mono (by decide)) bhTk mhTk (GhTk.mono (by decide)) bhPl mhPl ((hplusC GhP).mono (by decide))
  have GhPt : FnOk l.prog w K mg base (L2.CX l.prog w) 8 _ _ ["self", "other"] (spHPtd K (He.ga K "Book") (He.ga K "Heap") (He.ga K "OtherBook")) := ok_hptd (k := 6) FhPt TH m_enumerate m_zip bhCk mhCk (GhC.mono (by decide)) bhCo mhCo GhCo Ffu bfu gfu (ok_fu (k := 6) Ffu)
  have hLM : pLw ≠ p_hMt := fun z => by
    have x9 := x10
    rw [hp0, hp1, z] at x9
    simp at x9
  exact ok_law38 (cm := fun i => (rNms.map (He.ga K)).getD i 0) (fM := fun j => [He.ma K (He.ga K "Heap") "plus", He.ma K (He.ga K "Heap") "begins", He.ma K (He.ga K "Heap") "less", He.ma K (He.ga K "Heap") "meet", He.ma K (He.ga K "Heap") "joined", He.ma K (He.ga K "Heap") "parted"].getD j 0) (fdM := fun j => [fdhPl, fdhBg, fdhLs, (PySem.W.fnOf "meet" "Heap.meet" (defArgs sHMeet) (defBody sHMeet) (defScope sHMeet) .none kV_hMt dc_hMt pm_hMt an_hMt (.ref c_hMt) ct_hMt), fdhJn, fdhPt].getD j fdhPl) lW cW tb hLM TH TB FB bB gB (GB 11) FSc bSc gSc (GSc.mono (by decide)) FRo bRo gRo (GRo 10) mk_Bk kbI (GIn.mono (by decide)) mk_Hp ((hinitC GhI).mono (by decide)) b3 FIs bIs gIs (GIs.mono (by decide)) bhBk mhBk (GhB 11) TBE bbEq (Gbe 10) (fun j hj => match j, hj with | 0, _ => bhPl | 1, _ => bhBg | 2, _ => bhLs | 3, _ => bhMt | 4, _ => bhJn | 5, _ => bhPt) (fun j hj => match j, hj with | 0, _ => mhPl | 1, _ => mhBg | 2, _ => mhLs | 3, _ => mhMt | 4, _ => mhJn | 5, _ => mhPt) (fun j hj => match j, hj with | 0, _ => GhP.mono (by decide) | 1, _ => GhBg.mono (by decide) | 2, _ => GhLs.mono (by decide) | 3, _ => GhMt.mono (by decide) | 4, _ => GhJn | 5, _ => GhPt.mono (by decide)) FT bT gT FK bK gK GK RT
theorem hRunA (w : World) (os : OsState) : (HandSHeadRun.endF (HandSHeadRun.stepQ (HandSHeadRun.denQ HandSHeadRun.tabQ) hR.prog w) 20000 hR.prog w os).map (fun s => HandSHeadRun.looksF hR.prog (PySem.W.boot_heap w.params) s.abs) = some true := by
  kernel_rfl
theorem hRunB (w : World) (os : OsState) : (HandSHeadRun.endF (HandSHeadRun.stepQ (HandSHeadRun.denQ HandSHeadRun.tabQ) hR.prog w) 20000 hR.prog w os).map (fun s => HandSHeadRun.seenQ (PySem.W.view hR.prog [75]) hNames (importedModules hR.prog.main.body) (fun s => PySem.W.xlAt (PySem.W.view hR.prog [75]) [] s && PySem.W.recOk hR.toRowW.records s) s.abs) = some (PySem.W.openGood (PySem.W.view hR.prog [75]) hNames) := by
  kernel_rfl
theorem hRunC (w : World) (os : OsState) : (HandSHeadRun.endF (HandSHeadRun.stepQ (HandSHeadRun.denQ HandSHeadRun.tabQ) hR.prog w) 20000 hR.prog w os).map (fun s => (hOb s).1) = some (He.valX hFn [] w).1 := by
  kernel_rfl
theorem hRunD (w : World) (os : OsState) : (HandSHeadRun.endF (HandSHeadRun.stepQ (HandSHeadRun.denQ HandSHeadRun.tabQ) hR.prog w) 20000 hR.prog w os).map (fun s => (hOb s).2) = some true := by
  kernel_rfl
theorem map_four {α β γ δ ε : Type} {o : Option α} {f : α → β} {g : α → γ} {h : α → δ × ε} {x : β} {y : γ} {z : δ} {u : ε} (a : o.map f = some x) (b : o.map g = some y) (c : o.map (fun s => (h s).1) = some z) (d : o.map (fun s => (h s).2) = some u) : o.map (fun s => (f s, g s, h s)) = some (x, y, z, u) := by
  cases o with
  | none => cases a
  | some s =>
    have a := Option.some.inj a
    have b := Option.some.inj b
    have c := Option.some.inj c
    have d := Option.some.inj d
    dsimp only at a b c d
    show some (f s, g s, h s) = _
    rw [a, b, show h s = (z, u) from Prod.ext c d]
theorem hRun (w : World) : HandSHeadRun.RunEq hR (PySem.W.view hR.prog [75]) hK hOb 20000 hNames w := fun os => map_four (hRunA w os) (hRunB w os) (hRunC w os) (hRunD w os)
end TB
open PySem PySem.W PySem.Calls PyProof.Rows
set_option maxHeartbeats 0 in
theorem PySem.Challenge.cw_tearboard_k38_heaps_of_other_books_holds : PySem.Challenge.rw_tearboard_k38_heaps_of_other_books.Holds := by
  w_on; o_law
  refine HandSHeadRun.head_any (r := OpenLaw.row PySem.Challenge.rw_tearboard_k38_heaps_of_other_books) (q := view (OpenLaw.row PySem.Challenge.rw_tearboard_k38_heaps_of_other_books).prog [75]) (H := TB.hK) (ob := TB.hOb) (M := 20000) (loose := TB.hNames) (d := HandSHeadRun.topDef (OpenLaw.row PySem.Challenge.rw_tearboard_k38_heaps_of_other_books).prog 75) (kwd := []) TB.hOb_eq
    (by kernel_rfl) (fun s => by kernel_rfl) TB.hRun (by kernel_rfl) (by kernel_rfl) (by kernel_rfl) (by rfl) (by first | assumption | decide +kernel) (by decide +kernel) ⟨rfl, rfl, rfl, rfl, rfl, by decide +kernel⟩ ?hw ?hc
  case hw => w_witness2
  case hc =>
    refine LamX.walk_ofTsE (l := PySem.Challenge.rw_tearboard_k38_heaps_of_other_books) (n := 63) (k := 14) (x := "_law_script") (CX := fun _ => L2.CX0) rfl (by decide) (by kernel_rfl) ⟨rfl, by decide, by decide⟩ ?F (fun _ _ _ _ _ z => z)
    intro w mg fa h Y G hmg0
    obtain ⟨K, KX, c⟩ := Y
    have hmg : mg ("law" : PySem.Str) = some (.ref fa) := by
      have e : (HandSHeadRun.topDef (OpenLaw.row PySem.Challenge.rw_tearboard_k38_heaps_of_other_books).prog 75).name = ("law" : PySem.Str) := by kernel_rfl
      rw [← e]
      exact hmg0
    exact ⟨K, KX, TB.hFacts KX G hmg c⟩
