import PyProof.Rows.All
import Wide.All
import OpenK.AllK
import Wide.FinOn
import HandS.ForMost
import HandS.IsInst
import HandS.TupAny
import HandS.TupMul
import HandS.Wide
import HandS.Codes
import HandS.DictComp
import HandS.Walk
import HandS.Zip
import HandS.Deep
import HandS.MakeKwOnly
import HandS.SortRule
import HandS.SortInts
import HandS.TupSets
import HandS.CallRecv
import HandS.ExcInit
import HandS.ClsMeth
import HandS.ExcField
import HandS.TryMany
import HandS.Lambda
import HandS.ExcIs
import HandS.WordsExc
import HandS.EndOwn
import KE.KStateDown
import KE.KNest
import KE.KNestM
import HandS.Defaults
import HandS.Head0
import HandS.Head1
import HandS.Head2
import HandS.HeadHook1
import HandS.HeadHook2
import HandS.HeadHook3
import HandS.HeadHook4
import HandS.HeadWalk
import KE.GoesMore
import KE.KExcInit
import KE.KExcIs
import PySem.Challenge.RW_tearboard_k01_refusals_and_their_familie
set_option Elab.async false
set_option linter.all false
set_option maxRecDepth 100000
set_option maxHeartbeats 4000000
namespace TB
open PySem PySem.Spec PyProof.Rows L2
def topS (i : Nat) : Stmt := PySem.Challenge.pw_tearboard_k01_refusals_and_their_familie.main.body.getD i (.Pass ⟨0, 0, 0, 0⟩)
/-! heaps -/
theorem same_upd {H : Hp} {p : Addr} {o : HO} (h : H p = none) : Same H (upd H p o) := fun b x e => by
  rw [upd_ne (ne_of_none e h)]
  exact e
/-- all that was tracked is as it was, but at b -/
def Off (b : Addr) (H H' : Hp) : Prop := ∀ a o, a ≠ b → H a = some o → H' a = some o
theorem Off.refl {b : Addr} {H : Hp} : Off b H H := fun _ _ _ h => h
theorem Off.trans {b : Addr} {H H1 H2 : Hp} (x : Off b H H1) (y : Off b H1 H2) : Off b H H2 := fun a o n h => y a o n (x a o n h)
theorem Off.same {b : Addr} {H H' : Hp} (x : Same H H') : Off b H H' := fun a o _ h => x a o h
theorem Off.upd {b : Addr} {H : Hp} {o : HO} : Off b H (upd H b o) := fun a x n h => by
  rw [upd_ne n]
  exact h
theorem Off.seqL {K : PySem.W.Frag} {b : Addr} {H H' : Hp} {a : Addr} {xs : List V} (x : Off b H H') (n : a ≠ b) (h : H a = some (.lst xs)) : H' a = some (.lst xs) := x a _ n h
/-- the bag of drawn numbers -/
structure Bag (H : Hp) (b c : Addr) : Prop where
  ex : ∃ (cells : List Int) (at' rest seed : Int), H b = some (.lst [.ref c, .int at', .int rest, .int seed]) ∧ H c = some (.lst (cells.map V.int)) ∧ 0 ≤ at' ∧ 0 ≤ rest ∧ 0 ≤ seed ∧ seed < 1000000000000 ∧ c ≠ b
theorem Bag.same {H H' : Hp} {b c : Addr} (h : Bag H b c) (x : Same H H') : Bag H' b c := by
  obtain ⟨cells, a, r, s, h1, h2, h3⟩ := h.ex
  exact ⟨cells, a, r, s, x _ _ h1, x _ _ h2, h3⟩
theorem Bag.ne {H : Hp} {b c p : Addr} (h : Bag H b c) (n : H p = none) : p ≠ b ∧ p ≠ c := by
  obtain ⟨cells, a, r, s, h1, h2, h3⟩ := h.ex
  exact ⟨(ne_of_none h1 n).symm, (ne_of_none h2 n).symm⟩
theorem Bag.upd {H : Hp} {b c p : Addr} {o : HO} (h : Bag H b c) (n : p ≠ b ∧ p ≠ c) : Bag (upd H p o) b c := by
  obtain ⟨cells, a, r, s, h1, h2, h3⟩ := h.ex
  refine ⟨cells, a, r, s, ?_, ?_, h3⟩
  · rw [upd_ne n.1.symm]
    exact h1
  · rw [upd_ne n.2.symm]
    exact h2
/-! ### exceptions of own classes over any of the plain built-in bases -/
/-- what the written part tells of the class at C; D is its mro behind C, B the built-in base -/
structure OexG (K : PySem.W.Frag) (C : Addr) : Prop where
  cls : ∃ (nm q : Str) (N : Addr) (bs bm : List Value) (sn : List Str) (sub : List Value) (ab : Bool) (col : Option Bool) (dd : Option Addr) (k0 k1 k2 k3 k5 : Option Value) (B nw it : String) (bmB : List Value),
    ExcBaseFacts B nw it bmB ∧ K.lookup C = some (excClassObj nm q C N bs bm true sn sub ab col dd k0 k1 k2 k3 k5 nw) ∧ (∀ Y : String, bm.contains (.type Y) = bmB.contains (.type Y)) ∧
      bmB.contains (.type "object") = true ∧ ∀ self : Value, refuseLoop self "__setattr__" (.ref C :: bm) = pure ()
  sa : PySem.W.findIn K (.ref C) "__setattr__" = some (some (.builtin "object.__setattr__"))
  exC : PySem.W.subIn K (.ref C) (.type "BaseException") = some true
  tyC : PySem.W.typeIn K (.ref C) = some (.type "type")
  kC : PySem.W.keepIn K (.ref C) = true
section
open Builtin Builtin.ObjectAttr PySem.W PySem.HandSPX
variable {prog : Program} {w : World} {A : Around} {R : Result → Shared → Prop} {hp : Heap} {g : Array GenState} {d : Drawn} {t : Nat} {os : OsState} {K : Frag} {name : Str} {tk : Tok} {v : Value} {x C : Addr} {fv : Array Value} {cd : ClassData}
/-- object.__setattr__ up to the own dict, whatever dict there is -/
theorem gosa {ox : Obj} {od : Option Obj} (hT : K.In hp) (I : InstAt hp x ox C od) (hcd : clsIn K C = some cd) (hne : cd.mro.isEmpty = false) (hob : cd.mro.contains (.type "object") = true) (hps : ∀ self : Value, refuseLoop self "__setattr__" cd.mro = pure ())
    (hno : findIn K (.ref C) name = some none)
    (hq : wpAny (model prog w) A.in1 (storeInOwnDict (.ref x) (.ref C) (.str name tk) name v false) (fun fin s' => match fin with | .done (.ret u) => R (.ok (.ret u)) s' | _ => False) (fun _ _ => False) ⟨hp, g, d, t, os⟩) :
    codeAny (model prog w) A (.call (.builtin "object.__setattr__") ⟨[.ref x, .str name tk, v], []⟩) R ⟨hp, g, d, t, os⟩ := by
  have so := PySem.F.store_object
  have isO : Looks (model prog w) hp (isInstance (.ref x) (.type "object")) true := I.type.andThen (looks_mroIn hT (by unfold mroIn; rw [hcd, Option.bind_some, if_neg (by rw [hne]; decide), hob]))
  refine codeAny_call_builtin so.slot.plain so.entry (@check_slot (model prog w) _ _ ⟨hp, g, d, t, os⟩ "object.__setattr__" "object" "__setattr__" (.ref x) [.str name tk, v] [] _ so.kind so.split isO (so.args (.ref x) (.str name tk) v) ?_)
  have lm : Looks (model prog w) hp (mroOf (.ref C)) cd.mro := (looks_clsIn hT hcd).andThen .now
  have ln : Looks (model prog w) hp (storeTaker? none) none := .now
  rw [osa_eq, refuse_eq]
  refine wpAny_bind (wpAny_bind (I.type.at (wpAny_bind (lm.at ?_))))
  rw [hps]
  refine wpAny_pure (wpAny_bind (I.type.at (wpAny_bind ((looks_findIn hT hno).at (wpAny_bind (ln.at ?_))))))
  refine wpAny_mono hq (fun fin s' z => ?_) fun _ _ z => z.elim
  rcases fin with (_ | _ | _ | _) | c <;> first | exact z | exact z.elim
/-- the first field: the dict is new -/
theorem gosa_new (hT : K.In hp) (hx : hp.get? x = some { cls := .ref C, data := .fields fv }) (hcd : clsIn K C = some cd) (hne : cd.mro.isEmpty = false) (hob : cd.mro.contains (.type "object") = true) (hps : ∀ self : Value, refuseLoop self "__setattr__" cd.mro = pure ())
    (hh : cd.hasDict = true) (hno : findIn K (.ref C) name = some none)
    (hq : ∀ h' tk' dx, (∀ b o, b ≠ x → hp.get? b = some o → h'.get? b = some o) → hp.objs.size ≤ dx → dx ≠ x → h'.get? x = some { cls := .ref C, dict := some dx, data := .fields fv } →
      h'.Ns1 dx (fun y => if y = name then some v else none) → R (.ok (.ret .none)) ⟨h', g, d, tk', os⟩) :
    codeAny (model prog w) A (.call (.builtin "object.__setattr__") ⟨[.ref x, .str name tk, v], []⟩) R ⟨hp, g, d, t, os⟩ := by
  refine gosa hT (⟨hx, rfl, rfl, trivial⟩ : InstAt hp x { cls := .ref C, data := .fields fv } C none) hcd hne hob hps hno ?_
  have lc : Looks (model prog w) hp (classData C) cd := looks_clsIn hT hcd
  have far : x ≠ hp.objs.size := Nat.ne_of_lt (Heap.lt_size hx)
  cases cd
  dsimp only at hh
  subst hh
  unfold storeInOwnDict ownDictForStores
  repeat (first | with_reducible refine store_in_new ?_ ?_ | with_reducible refine wpAny_loadPart_at hx ?_ | with_reducible refine lc.at ?_ | wp_step)
  · exact ⟨_, #[], _, (Heap.get?_update_ne _ _ _ _ far.symm).trans (Heap.get?_push_at rfl rfl), rfl, fun e he => absurd he (by simp), fun _ => rfl⟩
  · intro h' tk' hn' hs
    refine hq h' tk' hp.objs.size (fun b o hb ho => ?_) (Nat.le_refl _) far.symm ?_ hn'
    · exact (hs.2 b (Nat.ne_of_lt (Heap.lt_size ho))).trans ((Heap.get?_update_ne _ _ _ _ hb).trans (Heap.get?_push_of_some _ ho))
    · exact (hs.2 x far).trans (Heap.get?_update_self _ (Heap.get?_push_of_some _ hx) rfl)
/-- a later field: the dict is there -/
theorem gosa_old {dx : Addr} {m0 : Str → Option Value} {nl : List Str} (hT : K.In hp) (hx : hp.get? x = some { cls := .ref C, dict := some dx, data := .fields fv }) (hns : hp.Ns1 dx m0) (hw : Within m0 nl) (hz : nl.length ≤ 1000)
    (hcd : clsIn K C = some cd) (hne : cd.mro.isEmpty = false) (hob : cd.mro.contains (.type "object") = true) (hps : ∀ self : Value, refuseLoop self "__setattr__" cd.mro = pure ()) (hh : cd.hasDict = true) (hno : findIn K (.ref C) name = some none)
    (hq : ∀ h' tk', (∀ b o, b ≠ dx → hp.get? b = some o → h'.get? b = some o) → h'.Ns1 dx (fun y => if y = name then some v else m0 y) → R (.ok (.ret .none)) ⟨h', g, d, tk', os⟩) :
    codeAny (model prog w) A (.call (.builtin "object.__setattr__") ⟨[.ref x, .str name tk, v], []⟩) R ⟨hp, g, d, t, os⟩ := by
  obtain ⟨oD, _, _, hoD, _, _⟩ := hns.count hw
  refine gosa hT (⟨hx, rfl, rfl, hoD⟩ : InstAt hp x { cls := .ref C, dict := some dx, data := .fields fv } C (some oD)) hcd hne hob hps hno ?_
  have lc : Looks (model prog w) hp (classData C) cd := looks_clsIn hT hcd
  cases cd
  dsimp only at hh
  subst hh
  unfold storeInOwnDict ownDictForStores
  repeat (first | with_reducible refine PySem.OEX.store_in_old hns hw hz ?_ | with_reducible refine wpAny_loadPart_at hx ?_ | with_reducible refine lc.at ?_ | wp_step)
  intro h' tk' hn' hs
  exact hq h' tk' (fun b o hb ho => (hs.2 b hb).trans ho) hn'
end
section
variable {X : Cx} {pins : List (Addr × Obj)} {σ : L2.St} {H : Hp} {s : Shared} {a C dx : Addr} {f : Str} {y : V} {u : Value} {fs : List (Str × V)} {Q : Unit → Shared → Prop} {E : Value → Shared → Prop} {A : Around}
theorem OexG.clsD {K : PySem.W.Frag} {C : Addr} (T : OexG K C) : ∃ cd, PySem.W.clsIn K C = some cd ∧ cd.mro.isEmpty = false ∧ cd.mro.contains (.type "object") = true ∧ (∀ self : Value, refuseLoop self "__setattr__" cd.mro = pure ()) ∧ cd.hasDict = true := by
  obtain ⟨nm, q, N, bs, bm, sn, sub, ab, col, dd, k0, k1, k2, k3, k5, B, nw, it, bmB, F, hC, hc, ho, hp⟩ := T.cls
  refine ⟨{ name := nm, bases := bs, mro := .ref C :: bm, ns := N, qualname := q, hasDict := true, slotNames := sn, subclasses := sub, abstract := ab, collection := col, hasDel := false }, by unfold PySem.W.clsIn; rw [hC] <;> rfl, rfl, ?_, hp, rfl⟩
  show (Value.ref C :: bm).contains (.type "object") = true
  rw [List.contains_cons, hc, ho, Bool.or_true]
/-- self.f = y, the first field -/
theorem gost_new (T : OexG X.K C) (I : Inv X pins σ H s) (e : H a = some (exo a C none)) (hno : PySem.W.findIn X.K (.ref C) f = some none) (ry : RelV y u)
    (h : ∀ dx s', H dx = none → dx ≠ a → Inv X pins σ (upd (upd H dx (exd dx [(f, y)])) a (exo a C (some dx))) s' → Q () s') : wpAny (model X.prog X.w) A (setAttr (.ref a) f u) Q E s := by
  obtain ⟨cd, hcd, c1, c2, c3, c4⟩ := T.clsD
  obtain ⟨t1, ho⟩ := exo_at I.hok e
  obtain ⟨hp, g, dr, tk, os⟩ := s
  refine PySem.W.set_plain I.kIn (ox := { cls := .ref C, dict := none, data := .fields #[.ref t1, .none, .none, .none, .bool false, .none] }) (od := none) ⟨ho, rfl, rfl, trivial⟩ T.sa ?_
  refine gosa_new I.kIn ho hcd c1 c2 c3 c4 hno fun h' tk' dx kp big ndx hx hn => ?_
  have n0 : H dx = none := I.hok.fresh big
  have nd : ∀ {b : Addr} {o : Obj}, hp.get? b = some o → b ≠ dx := fun {b o} z => Nat.ne_of_lt (Nat.lt_of_lt_of_le (Heap.lt_size z) big)
  have na : ∀ {b : Addr}, H b = none → b ≠ a := fun {b} z1 z2 => by
    rw [z2, e] at z1
    cases z1
  have U : Un X.fs [] H (upd (upd H dx (exd dx [(f, y)])) a (exo a C (some dx))) hp h' :=
    ⟨fun b o z n _ _ => kp b o (na n) z, fun b o z n _ _ => ⟨o.slots, kp b o (na n) z⟩, fun b o z n _ => by rw [upd_ne (na n), upd_ne (nd z)]; exact n, fun b o z _ => by
      by_cases hb : b = a
      · exact ⟨_, by rw [hb]; exact hx⟩
      · exact ⟨o, kp b o hb z⟩,
     fun b xs z => by rw [upd_ne (at_ne e z exo_tup), upd_ne (ne_of_none z n0)]; exact z, fun b o w z => by rw [upd_ne (at_ne e z exo_frz), upd_ne (ne_of_none z n0)]; exact z,
     fun b ps z => ⟨#[], by rw [upd_ne (at_ne e z exo_tbl), upd_ne (ne_of_none z n0), z]; simp⟩⟩
  refine h dx _ n0 ndx (I.un (t' := tk') U fun b o z => ?_)
  by_cases hb : b = a
  · rw [hb, upd_same] at z
    cases z
    rw [hb]
    exact exo_ok hx
  rw [upd_ne hb] at z
  by_cases hd : b = dx
  · rw [hd, upd_same] at z
    cases z
    rw [hd]
    exact exd_ok hn (relO_put (fs := []) ry fun _ => True.intro)
  rw [upd_ne hd] at z
  refine (I.hok b o z).stay (fun c w hc z' => kp c w ?_ z') (fun c hc => ?_) fun c xs hc => ?_
  · rcases hc with hc | hc
    · rw [hc]
      exact hb
    · exact at_ne e hc exo_own
  · rw [upd_ne (at_ne e hc exo_own), upd_ne (ne_of_none hc n0)]
    exact hc
  · rw [upd_ne (at_ne e hc exo_tup), upd_ne (ne_of_none hc n0)]
    exact hc
/-- self.f = y, a later field -/
theorem gost_old (T : OexG X.K C) (I : Inv X pins σ H s) (e : H a = some (exo a C (some dx))) (ed : H dx = some (exd dx fs)) (hl : fs.length ≤ 900) (hno : PySem.W.findIn X.K (.ref C) f = some none) (ry : RelV y u)
    (h : ∀ s', Inv X pins σ (upd H dx (exd dx ((f, y) :: fs))) s' → Q () s') : wpAny (model X.prog X.w) A (setAttr (.ref a) f u) Q E s := by
  obtain ⟨cd, hcd, c1, c2, c3, c4⟩ := T.clsD
  obtain ⟨t1, ho⟩ := exo_at I.hok e
  obtain ⟨mA, hns, rel⟩ := exd_at I.hok ed
  have hw := within_of rel
  obtain ⟨hp, g, dr, tk, os⟩ := s
  obtain ⟨oD, _, _, hoD, _, _⟩ := hns.count hw
  refine PySem.W.set_plain I.kIn (ox := { cls := .ref C, dict := some dx, data := .fields #[.ref t1, .none, .none, .none, .bool false, .none] }) (od := some oD) ⟨ho, rfl, rfl, hoD⟩ T.sa ?_
  refine gosa_old I.kIn ho hns hw (by rw [List.length_map]; omega) hcd c1 c2 c3 c4 hno fun h' tk' kp hn => ?_
  have st : ∃ o, h'.get? dx = some o := by
    obtain ⟨o, _, _, z, _⟩ := hn
    exact ⟨o, z⟩
  exact h _ (I.write (t' := tk') (x := dx) (e := dx) (o := exd dx ((f, y) :: fs)) (by rw [ed]; exact True.intro) (.inl rfl) kp st (exd_ok hn (relO_put ry rel)))
end
/-- self.f = e, self an exception that is being made -/
def tGst (K : PySem.W.Frag) (f : Str) (to te : TE) : TS := fun D σ H => te σ H fun y H1 => to σ H1 fun x H2 => ∃ a C : Addr, x = .ref a ∧ OexG K C ∧ PySem.W.findIn K (.ref C) f = some none ∧
  ((H2 a = some (exo a C none) ∧ ∀ dx, H2 dx = none → dx ≠ a → D.nx σ (upd (upd H2 dx (exd dx [(f, y)])) a (exo a C (some dx)))) ∨
    ∃ (dx : Addr) (fs : List (Str × V)), H2 a = some (exo a C (some dx)) ∧ H2 dx = some (exd dx fs) ∧ fs.length ≤ 900 ∧ D.nx σ (upd H2 dx (exd dx ((f, y) :: fs))))
section
variable {X : Cx} {o e : Expr} {es : List Expr} {to te : TE} {ta : TA} {f : Str} {p p' p1 p2 pos : Pos}
theorem ps_gst (ho : PE X o to) (he : PE X e te) (hs : swapsWith e (some (.Attribute o f p')) pos.line X.env = pure false := by rfl) : PS X (.Assign [.Attribute o f p'] e pos) (tGst X.K f to te) := by
  refine ⟨fun pins s σ H D I h => ?_⟩
  refine plainObj_wpAny_Assign_Attribute (thn (he.run pins s σ H _ I h) fun v s1 ⟨y, H1, I1, r1, q1⟩ => thn (ho.run pins s1 σ H1 _ I1 q1) fun u s2 z => ?_) hs
  obtain ⟨x, H2, I2, r2, a, C, rfl, T, hno, q⟩ := z
  obtain rfl : u = Value.ref a := r2
  rcases q with ⟨ea, q⟩ | ⟨dx, fs, ea, ed, hl, q⟩
  · exact gost_new T I2 ea hno r1 fun dx s' n ne J => ⟨σ, _, J, q dx n ne⟩
  · exact gost_old T I2 ea ed hl hno r1 fun s' J => ⟨σ, _, J, q⟩
end
/-! ### making such an exception: C(e, ..), its own __init__ keeping sp -/
section
variable {X : Cx} {pins : List (Addr × Obj)} {σ : L2.St} {CX : CXT} {C fI : Addr} {k : Nat} {fd : FuncData} {ps : List Str} {sp : Sp} {ds : List Value} {dvs : List V}
/-- the call, its arguments at hand; G: what is wanted behind it -/
theorem gmake {H1 : Hp} {us : List Value} {vs : List V} {s1 : Shared} {Q' : VK} {G : Value → Shared → Prop} (T : OexG X.K C) (iC : PySem.W.findIn X.K (.ref C) "__init__" = some (some (.ref fI))) (tI : PySem.W.typeIn X.K (.ref fI) = some (.type "function"))
    (F1 : FnOk X.prog X.w X.K X.mg X.base CX k fI fd ps sp) (hr : Room (k + 1) X.A) (hb : Binds X.K fd ps ds) (hd : Vals dvs ds) (hx : Passes CX X (fun _ _ _ => False)) (I1 : Inv X pins σ H1 s1) (r1 : Vals vs us) (hz : vs.length ≤ 1000)
    (q1 : sp (.ref (s1.heap.objs.size + 1) :: (vs ++ dvs)) (upd H1 (s1.heap.objs.size + 1) (exo (s1.heap.objs.size + 1) C none)) Q' (fun _ _ _ => False))
    (hG : ∀ (s0 s2 : Shared) (u : Value), (∀ b o, s1.heap.get? b = some o → s0.heap.get? b = some o) → s0.os = s1.os → Inv X pins σ (upd H1 (s1.heap.objs.size + 1) (exo (s1.heap.objs.size + 1) C none)) s0 →
      CE X.stack X.prog X.w (upd H1 (s1.heap.objs.size + 1) (exo (s1.heap.objs.size + 1) C none)) s0 Q' u s2 → u = .none ∧ G (.ref (s1.heap.objs.size + 1)) s2) :
    wpAny (model X.prog X.w) X.A (call (.ref C) us) G X.xe s1 := by
  obtain ⟨nm, q, N, bs, bm, sn, sub, ab, col, dd, k0, k1, k2, k3, k5, B, nw, it, bmB, FB, hC, hc, _, _⟩ := T.cls
  obtain ⟨hp, g, dr, tk, os⟩ := s1
  dsimp only at q1 hG
  have up : ∀ b o, hp.get? b = some o → ((hp.push (PySem.W.kdv_tup us)).push (PySem.HandSPX.excO C hp.objs.size)).get? b = some o := fun b o z => Heap.get?_push_of_some _ (Heap.get?_push_of_some _ z)
  have new : ((hp.push (PySem.W.kdv_tup us)).push (PySem.HandSPX.excO C hp.objs.size)).get? (hp.objs.size + 1) = some (PySem.HandSPX.excO C hp.objs.size) := by heap_get
  have J : Inv X pins σ (upd H1 (hp.objs.size + 1) (exo (hp.objs.size + 1) C none)) ⟨(hp.push (PySem.W.kdv_tup us)).push (PySem.HandSPX.excO C hp.objs.size), g, dr, tk, os⟩ :=
    I1.laid (t' := tk) (a := hp.objs.size + 1) (o := exo (hp.objs.size + 1) C none) (h' := (hp.push (PySem.W.kdv_tup us)).push (PySem.HandSPX.excO C hp.objs.size)) up (Nat.le_succ _) (exo_ok new)
  have rr : Vals (V.ref (hp.objs.size + 1) :: (vs ++ dvs)) (Value.ref (hp.objs.size + 1) :: (us ++ ds)) := .cons rfl (r1.append hd)
  have hl : (Value.ref (hp.objs.size + 1) :: us ++ ds).length = ps.length := rr.length.symm.trans (F1.len _ _ _ _ q1)
  have hu : us.length ≤ sizeLine := by
    rw [← Paired.length r1, sizeLine_eq]
    omega
  refine wpAny_call (PySem.HandSPX.call_own FB hc (I1.kIn _ _ hC) (PySem.W.looks_findIn I1.kIn iC) (fun self => PySem.W.bind_fn I1.kIn self tI) hu ?_)
  refine codeAny_mono (F1.run _ X.stack _ _ ⟨Value.ref (hp.objs.size + 1) :: us, []⟩ (Value.ref (hp.objs.size + 1) :: (us ++ ds)) _ _ (fun _ _ _ => False) (hr.make C us []) (J.env0.make C us []) (hb _ (Value.ref (hp.objs.size + 1) :: us) J.kIn hl) rr q1) fun r s' z => ?_
  cases r with
  | error er => exact hx pins σ _ _ er s' J z
  | ok fl =>
    cases fl with
    | ret u => exact hG _ s' u up rfl J z
    | next => exact False.elim z
    | brk => exact False.elim z
    | cont => exact False.elim z
/-- .. to be raised -/
theorem gmake_x {H1 : Hp} {us : List Value} {vs : List V} {s1 : Shared} {Q : XK} (T : OexG X.K C) (iC : PySem.W.findIn X.K (.ref C) "__init__" = some (some (.ref fI))) (tI : PySem.W.typeIn X.K (.ref fI) = some (.type "function"))
    (F1 : FnOk X.prog X.w X.K X.mg X.base CX k fI fd ps sp) (hr : Room (k + 1) X.A) (hb : Binds X.K fd ps ds) (hd : Vals dvs ds) (hx : Passes CX X (fun _ _ _ => False)) (I1 : Inv X pins σ H1 s1) (r1 : Vals vs us) (hz : vs.length ≤ 1000)
    (q1 : ∀ a, H1 a = none → sp (.ref a :: (vs ++ dvs)) (upd H1 a (exo a C none))
      (fun v H2 => v = .non ∧ ∃ (d : Addr) (fs : List (Str × V)), H2 a = some (exo a C (some d)) ∧ H2 d = some (exd d fs) ∧ H1 d = none ∧ Q (.ref C) (some d) (upd (del H2 a) d (.xd fs))) (fun _ _ _ => False)) :
    wpAny (model X.prog X.w) X.A (call (.ref C) us) (MkP X pins σ Q) X.xe s1 := by
  refine gmake T iC tI F1 hr hb hd hx I1 r1 hz (q1 _ (I1.hok.fresh (Nat.le_succ _))) fun s0 s2 u up e0 J z => ?_
  obtain ⟨v, H2, os2, bare2, un2, hok2, rv, ev, d, fs, ea, ed, hd1, q2⟩ := z
  subst ev
  obtain ⟨h1, g1, d1, t1, o1⟩ := s1
  obtain ⟨h2, g2, d2, t2, o2⟩ := s2
  obtain ⟨h0, g0, d0, t0, o0⟩ := s0
  obtain rfl : o0 = o1 := e0
  exact ⟨rv, mk_end (raises_own T.exC T.tyC) I1 (Nat.le_succ _) up un2 hok2 os2 bare2 ea ed hd1 q2⟩
variable {x : Str} {p pos : Pos} {e : Expr} {es : List Expr} {ta : TA}
theorem pmk_gex (T : OexG X.K C) (iC : PySem.W.findIn X.K (.ref C) "__init__" = some (some (.ref fI))) (tI : PySem.W.typeIn X.K (.ref fI) = some (.type "function"))
    (F1 : FnOk X.prog X.w X.K X.mg X.base CX k fI fd ps sp) (hr : Room (k + 1) X.A) (hb : Binds X.K fd ps ds) (hd : Vals dvs ds) (hx : Passes CX X (fun _ _ _ => False)) (hg : Gl X x) (hm : X.mg x = some (.ref C)) (ha : PA X (e :: es) ta)
    (hdb : (x == ("__debug__" : Str)) = false := by decide) (he : starEach (e :: es) X.env = (false, eval e X.env) :: starEach es X.env := by rfl) (hpl : (backTo pos (starEach es X.env)).any (·.1) = false := by rfl) :
    PMk X (.Call (.Name x p) (e :: es) [] pos) (tMkO C sp dvs ta) := by
  intro pins s σ H Q I h
  refine wpAny_Call_Name_kw (ld_glob I hg hm ?_ hdb)
  refine PySem.W.callWith_K (h₀ := X.base) I.ok.mod.kin T.kC (thn (ha.run pos pins s σ H _ I h) fun us s1 z => ?_) he hpl
  obtain ⟨vs, H1, I1, r1, hz, q1⟩ := z
  exact ⟨I1.kIn, gmake_x T iC tI F1 hr hb hd hx I1 r1 hz q1⟩
theorem pmk_gex0 (T : OexG X.K C) (iC : PySem.W.findIn X.K (.ref C) "__init__" = some (some (.ref fI))) (tI : PySem.W.typeIn X.K (.ref fI) = some (.type "function"))
    (F1 : FnOk X.prog X.w X.K X.mg X.base CX k fI fd ps sp) (hr : Room (k + 1) X.A) (hb : Binds X.K fd ps ds) (hd : Vals dvs ds) (hx : Passes CX X (fun _ _ _ => False)) (hg : Gl X x) (hm : X.mg x = some (.ref C))
    (hdb : (x == ("__debug__" : Str)) = false := by decide) : PMk X (.Call (.Name x p) [] [] pos) (tMkO C sp dvs tNil) := by
  intro pins s σ H Q I h
  refine wpAny_Call_Name_kw (ld_glob I hg hm ?_ hdb)
  exact PySem.W.callWith_K0 I.kIn T.kC (gmake_x (us := []) T iC tI F1 hr hb hd hx I .nil h.1 h.2)
/-- C(e, ..) as a value that is kept -/
def tMkV (C : Addr) (sp : Sp) (dvs : List V) (ta : TA) : TE := fun σ H Q => ta σ H fun vs H1 => vs.length ≤ 1000 ∧ ∀ a, H1 a = none → sp (.ref a :: (vs ++ dvs)) (upd H1 a (exo a C none)) (fun v H2 => v = .non ∧ Q (.ref a) H2) (fun _ _ _ => False)
theorem gmake_v {H1 : Hp} {us : List Value} {vs : List V} {s1 : Shared} {Q : VK} (T : OexG X.K C) (iC : PySem.W.findIn X.K (.ref C) "__init__" = some (some (.ref fI))) (tI : PySem.W.typeIn X.K (.ref fI) = some (.type "function"))
    (F1 : FnOk X.prog X.w X.K X.mg X.base CX k fI fd ps sp) (hr : Room (k + 1) X.A) (hb : Binds X.K fd ps ds) (hd : Vals dvs ds) (hx : Passes CX X (fun _ _ _ => False)) (I1 : Inv X pins σ H1 s1) (r1 : Vals vs us) (hz : vs.length ≤ 1000)
    (q1 : ∀ a, H1 a = none → sp (.ref a :: (vs ++ dvs)) (upd H1 a (exo a C none)) (fun v H2 => v = .non ∧ Q (.ref a) H2) (fun _ _ _ => False)) :
    wpAny (model X.prog X.w) X.A (call (.ref C) us) (EP X pins σ Q) X.xe s1 := by
  refine gmake T iC tI F1 hr hb hd hx I1 r1 hz (q1 _ (I1.hok.fresh (Nat.le_succ _))) fun s0 s2 u up e0 J z => ?_
  obtain ⟨v, H2, J2, rv, ev, q2⟩ := J.after z
  subst ev
  exact ⟨rv, .ref (s1.heap.objs.size + 1), H2, J2, rfl, q2⟩
theorem pe_gex (T : OexG X.K C) (iC : PySem.W.findIn X.K (.ref C) "__init__" = some (some (.ref fI))) (tI : PySem.W.typeIn X.K (.ref fI) = some (.type "function"))
    (F1 : FnOk X.prog X.w X.K X.mg X.base CX k fI fd ps sp) (hr : Room (k + 1) X.A) (hb : Binds X.K fd ps ds) (hd : Vals dvs ds) (hx : Passes CX X (fun _ _ _ => False)) (hg : Gl X x) (hm : X.mg x = some (.ref C)) (ha : PA X (e :: es) ta)
    (hdb : (x == ("__debug__" : Str)) = false := by decide) (he : starEach (e :: es) X.env = (false, eval e X.env) :: starEach es X.env := by rfl) (hpl : (backTo pos (starEach es X.env)).any (·.1) = false := by rfl) :
    PE X (.Call (.Name x p) (e :: es) [] pos) (tMkV C sp dvs ta) := by
  refine ⟨fun pins s σ H Q I h => ?_⟩
  refine wpAny_Call_Name_kw (ld_glob I hg hm ?_ hdb)
  refine PySem.W.callWith_K (h₀ := X.base) I.ok.mod.kin T.kC (thn (ha.run pos pins s σ H _ I h) fun us s1 z => ?_) he hpl
  obtain ⟨vs, H1, I1, r1, hz, q1⟩ := z
  exact ⟨I1.kIn, gmake_v T iC tI F1 hr hb hd hx I1 r1 hz q1⟩
theorem pe_gex0 (T : OexG X.K C) (iC : PySem.W.findIn X.K (.ref C) "__init__" = some (some (.ref fI))) (tI : PySem.W.typeIn X.K (.ref fI) = some (.type "function"))
    (F1 : FnOk X.prog X.w X.K X.mg X.base CX k fI fd ps sp) (hr : Room (k + 1) X.A) (hb : Binds X.K fd ps ds) (hd : Vals dvs ds) (hx : Passes CX X (fun _ _ _ => False)) (hg : Gl X x) (hm : X.mg x = some (.ref C))
    (hdb : (x == ("__debug__" : Str)) = false := by decide) : PE X (.Call (.Name x p) [] [] pos) (tMkV C sp dvs tNil) := by
  refine ⟨fun pins s σ H Q I h => ?_⟩
  refine wpAny_Call_Name_kw (ld_glob I hg hm ?_ hdb)
  exact PySem.W.callWith_K0 I.kIn T.kC (gmake_v (us := []) T iC tI F1 hr hb hd hx I .nil h.1 h.2)
end
/-! ### C.m(e, ..): a plain def of a class, called by the class's name -/
/-- the class at C tells of its def g under the name m -/
structure CFn (K : PySem.W.Frag) (C : Addr) (m : Str) (g : Addr) : Prop where
  rd : PySem.W.readsIn K C (.type "type") = true
  ga : PySem.W.specialIn K (.ref C) "__getattribute__" = some (some (.builtin "type.__getattribute__"))
  at_ : PySem.W.findCls K (.ref C) (.type "type") m = some (.val (.ref g))
  kp : PySem.W.keepIn K (.ref g) = true
section
variable {X : Cx} {CX : CXT} {k : Nat} {C g : Addr} {fd : FuncData} {ps : List Str} {sp : Sp} {ds : List Value} {dvs : List V} {E : XK} {e : Expr} {es : List Expr} {c m : Str} {p pos apos : Pos} {t : TA} {pl : Sem Bool}
theorem pe_cfn (T : CFn X.K C m g) (F : FnOk X.prog X.w X.K X.mg X.base CX k g fd ps sp) (hr : Room k X.A) (hb : Binds X.K fd ps ds) (hd : Vals dvs ds) (hx : Passes CX X E) (hg : Gl X c) (hm : X.mg c = some (.ref C)) (ha : PA X (e :: es) t)
    (hdb : (c == ("__debug__" : Str)) = false := by decide) (hst : starEach (e :: es) X.env = (false, eval e X.env) :: starEach es X.env := by rfl) (hpl : (backTo pos (starEach es X.env)).any (·.1) = false := by rfl)
    (ht : eval (.Call (.Attribute (.Name c p) m apos) (e :: es) [] pos) X.env = (do
      let ov ← eval (.Name c p) X.env
      standAt apos.atName
      let (f, first) ← holding [ov] (getMethod ov m pl)
      callWith pos f first (backTo pos (starEach (e :: es) X.env)) (backToKw pos (keywordEach [] X.env))) := by rfl) :
    PE X (.Call (.Attribute (.Name c p) m apos) (e :: es) [] pos) (tCall sp dvs E t) := by
  refine ⟨fun pins s σ H Q I h => ?_⟩
  refine PySem.W.methodCall_KW (pl := pl) (ld_glob I hg hm ?_ hdb) ht
  refine PySem.W.method_cls I.kIn T.ga (PySem.W.cls_value I.kIn T.rd T.at_ rfl ?_)
  refine PySem.W.callWith_K (h₀ := X.base) (first := []) I.ok.mod.kin T.kp (thn (ha.run pos pins _ σ H _ (I.tok _) h) fun us s1 z => ?_) hst hpl
  obtain ⟨vs, H1, I1, r, q⟩ := z
  exact ⟨I1.kIn, run_fn F hr hb hd hx I1 r q⟩
end
/-! ### what the __init__s keep -/
/-- a base: self.word = word -/
def spBase (K : PySem.W.Frag) : Sp := fun vs H Q _ => ∃ (a C : Addr) (y : V), vs = [.ref a, y] ∧ OexG K C ∧ PySem.W.findIn K (.ref C) "word" = some none ∧ H a = some (exo a C none) ∧
  ∀ dx, H dx = none → dx ≠ a → Q .non (upd (upd H dx (exd dx [("word", y)])) a (exo a C (some dx)))
/-- a class of refusals: n values, kept under the names that fs tells -/
def spMade (C : Addr) (n : Nat) (fs : List V → List (Str × V)) : Sp := fun vs H Q _ => ∃ (a : Addr) (ws : List V), vs = .ref a :: ws ∧ ws.length = n ∧ H a = some (exo a C none) ∧
  ∀ (dx : Addr) (H2 : Hp), H dx = none → dx ≠ a → (∀ b, b ≠ a → b ≠ dx → H2 b = H b) → H2 a = some (exo a C (some dx)) → H2 dx = some (exd dx (fs ws)) → Q .non H2
/-- all that is wanted of a class of refusals by the def that makes one -/
structure ExcK (P : Program) (w : World) (K : PySem.W.Frag) (mg : Str → Option Value) (base : Heap) (k : Nat) (nm : Str) (C : Addr) (n : Nat) (fs : List V → List (Str × V)) : Prop where
  oex : OexG K C
  mgC : mg nm = some (.ref C)
  init : ∃ (fI : Addr) (fd : FuncData) (ps : List Str), PySem.W.findIn K (.ref C) "__init__" = some (some (.ref fI)) ∧ PySem.W.typeIn K (.ref fI) = some (.type "function") ∧ FnOk P w K mg base CX0 k fI fd ps (spMade C n fs) ∧ Binds K fd ps []
/-- the reading: nm(e, ..), to be raised -/
def tRef (C : Addr) (n : Nat) (fs : List V → List (Str × V)) (ta : TA) : L2.St → Hp → XK → Prop := fun σ H Q => ta σ H fun vs H1 => vs.length = n ∧ vs.length ≤ 1000 ∧ ∀ (d : Addr) (H2 : Hp), H1 d = none → (∀ b, b ≠ d → H1 b ≠ none → H2 b = H1 b) → H2 d = some (.xd (fs vs)) → Q (.ref C) (some d) H2
section
variable {X : Cx} {k : Nat} {nm : Str} {C : Addr} {n : Nat} {fs : List V → List (Str × V)} {p pos : Pos} {e : Expr} {es : List Expr} {ta : TA}
theorem tRef_mk {H1 : Hp} {vs : List V} {Q : XK} (hn : vs.length = n) (h : ∀ (d : Addr) (H2 : Hp), H1 d = none → (∀ b, b ≠ d → H1 b ≠ none → H2 b = H1 b) → H2 d = some (.xd (fs vs)) → Q (.ref C) (some d) H2) (a : Addr) (ha : H1 a = none) :
    spMade C n fs (.ref a :: (vs ++ [])) (upd H1 a (exo a C none))
      (fun v H2 => v = .non ∧ ∃ (d : Addr) (gs : List (Str × V)), H2 a = some (exo a C (some d)) ∧ H2 d = some (exd d gs) ∧ H1 d = none ∧ Q (.ref C) (some d) (upd (del H2 a) d (.xd gs))) (fun _ _ _ => False) := by
  refine ⟨a, vs, by rw [List.append_nil], hn, upd_same, fun dx H2 h1 h2 h3 h4 h5 => ⟨rfl, dx, _, h4, h5, ?_, ?_⟩⟩
  · rw [upd_ne h2] at h1
    exact h1
  · rw [upd_ne h2] at h1
    refine h dx _ h1 (fun b hb hb2 => ?_) upd_same
    have nb : b ≠ a := fun z => hb2 (by rw [z]; exact ha)
    rw [upd_ne hb, del_ne nb, h3 b nb hb, upd_ne nb]
theorem pmk_ref (T : ExcK X.prog X.w X.K X.mg X.base k nm C n fs) (hr : Room (k + 1) X.A) (hg : Gl X nm) (ha : PA X (e :: es) ta)
    (hdb : (nm == ("__debug__" : Str)) = false := by decide) (he : starEach (e :: es) X.env = (false, eval e X.env) :: starEach es X.env := by rfl) (hpl : (backTo pos (starEach es X.env)).any (·.1) = false := by rfl) :
    PMk X (.Call (.Name nm p) (e :: es) [] pos) (tRef C n fs ta) := by
  obtain ⟨fI, fd, ps, i1, i2, i3, i4⟩ := T.init
  intro pins s σ H Q I h
  refine wpAny_Call_Name_kw (ld_glob I hg T.mgC ?_ hdb)
  refine PySem.W.callWith_K (h₀ := X.base) I.ok.mod.kin T.oex.kC (thn (ha.run pos pins s σ H _ I h) fun us s1 z => ?_) he hpl
  obtain ⟨vs, H1, I1, r1, z1, z2, z3⟩ := z
  exact ⟨I1.kIn, gmake_x T.oex i1 i2 i3 hr i4 .nil pass0 I1 r1 z2 (tRef_mk z1 z3)⟩
theorem pmk_ref0 (T : ExcK X.prog X.w X.K X.mg X.base k nm C n fs) (hr : Room (k + 1) X.A) (hg : Gl X nm) (hdb : (nm == ("__debug__" : Str)) = false := by decide) : PMk X (.Call (.Name nm p) [] [] pos) (tRef C n fs tNil) := by
  obtain ⟨fI, fd, ps, i1, i2, i3, i4⟩ := T.init
  intro pins s σ H Q I h
  exact pmk_gex0 T.oex i1 i2 i3 hr i4 .nil pass0 hg T.mgC hdb pins s σ H Q I ⟨h.2.1, fun a ha => tRef_mk h.1 h.2.2 a ha⟩
end
/-! ### an exception that is held as a value: isinstance, fields -/
section
variable {X : Cx}
/-- isinstance(e, c), e an exception with fields, c a class -/
def rIsV (K : PySem.W.Frag) : List V → Hp → VK → Prop := fun xs H Q => ∃ (a C dx : Addr) (fs : List (Str × V)) (c : V) (cv : Value) (b : Bool), xs = [.ref a, c] ∧ H a = some (exo a C (some dx)) ∧ H dx = some (exd dx fs) ∧ ExcC K C ∧ (∀ u, L2.RelV c u → u = cv) ∧ PySem.W.kitOne K (.ref C) cv = some b ∧ Q (.bl b) H
theorem exo_inst {pins : List (Addr × Obj)} {σ : L2.St} {H : Hp} {s : Shared} {a C dx : Addr} {fs : List (Str × V)} (I : Inv X pins σ H s) (h1 : H a = some (exo a C (some dx))) (h2 : H dx = some (exd dx fs)) :
    ∃ (ox od : Obj) (mA : Str → Option Value), PySem.W.InstAt s.heap a ox C (some od) ∧ s.heap.Ns1 dx mA ∧ s.heap.get? dx = some od ∧ ∀ f, RelO (fs.lookup f) (mA f) := by
  obtain ⟨t1, ho⟩ := exo_at I.hok h1
  obtain ⟨mA, hns, rel⟩ := exd_at I.hok h2
  obtain ⟨od, es, ep, hd, _⟩ := id hns
  exact ⟨_, od, mA, ⟨ho, rfl, rfl, hd⟩, hns, hd, rel⟩
theorem call_isV : CallR X (.builtin "isinstance") (rIsV X.K) := by
  intro pins s σ H xs us Q I r h
  obtain ⟨a, C, dx, fs, c, cv, b, rfl, h1, h2, T, hcv, e, q⟩ := h
  cases r with
  | cons rx rr =>
    cases rr with
    | cons rt rr =>
      cases rr
      cases rx
      have ec := hcv _ rt
      subst ec
      obtain ⟨ox, od, mA, J, _, _, _⟩ := exo_inst I h1 h2
      obtain ⟨cd, hc, _⟩ := PySem.W.any_some T.hd
      exact PySem.W.kia_one (PySem.W.kitx_exc (ox := ox) (od := some od) (by rw [hc]; rfl) T.hg T.hk T.hs T.ha T.hn T.ht T.hm) I.kIn J e (fun z => nomatch z) fun tk => ⟨.bl b, H, I.kept (t' := tk) fun _ _ z => z, rfl, q⟩
end
section
variable {X : Cx}
/-- isinstance(e, (c, ..)) -/
def rIsVT (K : PySem.W.Frag) : List V → Hp → VK → Prop := fun xs H Q => ∃ (a C dx tp : Addr) (fs : List (Str × V)) (cs : List V) (cvs : List Value) (b : Bool), xs = [.ref a, .ref tp] ∧ H a = some (exo a C (some dx)) ∧ H dx = some (exd dx fs) ∧ ExcC K C ∧ H tp = some (.tup cs) ∧
  (∀ us, Vals cs us → us = cvs) ∧ PySem.W.kitAny K (.ref C) cvs = some b ∧ Q (.bl b) H
theorem call_isVT : CallR X (.builtin "isinstance") (rIsVT X.K) := by
  intro pins s σ H xs us Q I r h
  obtain ⟨a, C, dx, tp, fs, cs, cvs, b, rfl, h1, h2, T, ht, hcv, e, q⟩ := h
  cases r with
  | cons rx rr =>
    cases rr with
    | cons rt rr =>
      cases rr
      cases rx
      cases rt
      obtain ⟨ox, od, mA, J, _, _, _⟩ := exo_inst I h1 h2
      obtain ⟨cd, hc, _⟩ := PySem.W.any_some T.hd
      have z : ObjOk X.prog X.w H s.heap tp (.tup cs) := I.hok tp _ ht
      obtain ⟨_, us, ru, o, ho, hcl, n, hd⟩ := z
      have eu := hcv us ru
      subst eu
      obtain ⟨oc, odd, oda, osl⟩ := o
      dsimp only at hcl hd
      subst hcl hd
      exact PySem.W.kia_tup (PySem.W.kitx_exc (ox := ox) (od := some od) (by rw [hc]; rfl) T.hg T.hk T.hs T.ha T.hn T.ht T.hm) I.kIn J ho e (fun z => nomatch z) fun tk => ⟨.bl b, H, I.kept (t' := tk) fun _ _ z => z, rfl, q⟩
/-- e.f, e an exception with fields -/
def tFldV (K : PySem.W.Frag) (f : Str) (te : TE) : TE := fun σ H Q => te σ H fun x H1 => ∃ (a C dx : Addr) (fs : List (Str × V)) (v : V), x = .ref a ∧ H1 a = some (exo a C (some dx)) ∧ H1 dx = some (exd dx fs) ∧ XfC K C ∧ PySem.W.findIn K (.ref C) f = some none ∧ fs.lookup f = some v ∧ Q v H1
theorem pe_fldV {e : Expr} {te : TE} {pos : Pos} {f : Str} (he : PE X e te) (hb : attributeBase e f X.env (eval e X.env) = eval e X.env := by rfl) : PE X (.Attribute e f pos) (tFldV X.K f te) := by
  refine ⟨fun pins s σ H Q I h => ?_⟩
  refine attr_of hb (thn (he.run pins s σ H _ I h) fun u s1 hh => ?_)
  obtain ⟨x, H1, I1, rx, a, C, dx, fs, v, rfl, h1, h2, T, hno, l, q⟩ := hh
  obtain rfl : u = Value.ref a := rx
  obtain ⟨ox, od, mA, J, hns, hd, rel⟩ := exo_inst I1 h1 h2
  obtain ⟨od', ho, hl⟩ := lookIn_ns hns
  rw [hd] at ho
  obtain rfl := Option.some.inj ho
  obtain ⟨u, hu, ru⟩ := RelO.some_of (v := v) (o := mA f) (by rw [← l]; exact rel f)
  exact HandSPX.exc_get I1.kIn J T.ga T.gg T.exC (PySem.W.findObj_own T.hdC hno rfl (by rw [hl, hu])) (handed_of ru) ⟨v, H1, I1.tok _, ru, q⟩
end
/-- at v: an exception of the class C with these fields -/
def RefAt (H : Hp) (v : V) (C : Addr) (fs : List (Str × V)) : Prop := ∃ a dx, v = .ref a ∧ H a = some (exo a C (some dx)) ∧ H dx = some (exd dx fs)
theorem RefAt.same {H H' : Hp} {v : V} {C : Addr} {fs : List (Str × V)} (h : RefAt H v C fs) (e : Same H H') : RefAt H' v C fs := by
  obtain ⟨a, dx, h1, h2, h3⟩ := h
  exact ⟨a, dx, h1, e _ _ h2, e _ _ h3⟩
/-- nm(e, ..) as a value -/
def tRefV (C : Addr) (n : Nat) (fs : List V → List (Str × V)) (ta : TA) : TE := fun σ H Q => ta σ H fun vs H1 => vs.length = n ∧ vs.length ≤ 1000 ∧ ∀ v H2, Same H1 H2 → RefAt H2 v C (fs vs) → Q v H2
section
variable {X : Cx} {k : Nat} {nm : Str} {C : Addr} {n : Nat} {fs : List V → List (Str × V)} {p pos : Pos} {e : Expr} {es : List Expr} {ta : TA}
theorem tRefV_mk {H1 : Hp} {vs : List V} {Q : VK} (hn : vs.length = n) (h : ∀ v H2, Same H1 H2 → RefAt H2 v C (fs vs) → Q v H2) (a : Addr) (ha : H1 a = none) :
    spMade C n fs (.ref a :: (vs ++ [])) (upd H1 a (exo a C none)) (fun v H2 => v = .non ∧ Q (.ref a) H2) (fun _ _ _ => False) := by
  refine ⟨a, vs, by rw [List.append_nil], hn, upd_same, fun dx H2 h1 h2 h3 h4 h5 => ⟨rfl, h _ _ (fun b o hb => ?_) ⟨a, dx, rfl, h4, h5⟩⟩⟩
  rw [upd_ne h2] at h1
  have nb : b ≠ a := ne_of_none hb ha
  rw [h3 b nb (ne_of_none hb h1), upd_ne nb]
  exact hb
theorem pe_refV (T : ExcK X.prog X.w X.K X.mg X.base k nm C n fs) (hr : Room (k + 1) X.A) (hg : Gl X nm) (ha : PA X (e :: es) ta)
    (hdb : (nm == ("__debug__" : Str)) = false := by decide) (he : starEach (e :: es) X.env = (false, eval e X.env) :: starEach es X.env := by rfl) (hpl : (backTo pos (starEach es X.env)).any (·.1) = false := by rfl) :
    PE X (.Call (.Name nm p) (e :: es) [] pos) (tRefV C n fs ta) := by
  obtain ⟨fI, fd, ps, i1, i2, i3, i4⟩ := T.init
  refine ⟨fun pins s σ H Q I h => ?_⟩
  refine wpAny_Call_Name_kw (ld_glob I hg T.mgC ?_ hdb)
  refine PySem.W.callWith_K (h₀ := X.base) I.ok.mod.kin T.oex.kC (thn (ha.run pos pins s σ H _ I h) fun us s1 z => ?_) he hpl
  obtain ⟨vs, H1, I1, r1, z1, z2, z3⟩ := z
  exact ⟨I1.kIn, gmake_v T.oex i1 i2 i3 hr i4 .nil pass0 I1 r1 z2 (tRefV_mk z1 z3)⟩
theorem pe_refV0 (T : ExcK X.prog X.w X.K X.mg X.base k nm C n fs) (hr : Room (k + 1) X.A) (hg : Gl X nm) (hdb : (nm == ("__debug__" : Str)) = false := by decide) : PE X (.Call (.Name nm p) [] [] pos) (tRefV C n fs tNil) := by
  obtain ⟨fI, fd, ps, i1, i2, i3, i4⟩ := T.init
  refine ⟨fun pins s σ H Q I h => ?_⟩
  refine wpAny_Call_Name_kw (ld_glob I hg T.mgC ?_ hdb)
  exact PySem.W.callWith_K0 I.kIn T.oex.kC (gmake_v (us := []) T.oex i1 i2 i3 hr i4 .nil pass0 I .nil h.2.1 (tRefV_mk h.1 h.2.2))
end
/-! ### the refusals by their numbers -/
def rNms : List Str := ["BadColours", "BadFigure", "Meeting", "TooMany", "TooFar", "BadOrder", "OtherColours", "OtherBook", "BadRow", "BadNote", "BadBeneath", "Full", "NoEnd", "NotStanding", "NeverClear", "BadDeed", "BadNumber", "NoBeginning", "Barred", "BadHeights", "BadWeights", "NoMean", "BadText", "NoPad", "NoFigure", "NoNote", "NothingBack", "NothingAgain"]
def rFls : List (List Str) := [["at"], ["at"], ["one", "other"], ["most"], ["most"], [], [], [], ["at"], ["note"], [], ["pad"], ["pad"], ["figure"], ["pad"], [], ["number"], [], ["pad"], ["at"], ["at"], [], ["at"], ["pad"], ["figure"], ["depth"], [], []]
def rNm (i : Nat) : Str := rNms.getD i ""
def rFl (i : Nat) : List Str := rFls.getD i []
/-- the fields of the refusal i with these values -/
def rFs (i : Nat) (ws : List V) : List (Str × V) := ((rFl i).zip ws).reverse ++ [(("word" : Str), V.str (rNm i))]
/-! ### the head by facts: Bools over what the top has written -/
theorem funOf {K : PySem.W.Frag} {x qual : Str} {st : Stmt} {f : Addr} {fd : FuncData} (F : FunD K x qual (defArgs st) (defBody st) (defScope st) [] [] f fd) : Fun K x qual st f fd := by
  obtain ⟨oc, od, dV, kV, doc, pm, an, cdv, ct, osl, e, lk, hcd, hd, _⟩ := F.ex
  have hn : dV = .none := by
    rcases hd with ⟨_, z⟩ | ⟨z, _⟩
    · exact z
    · exact absurd rfl z
  subst hn
  exact ⟨⟨oc, od, kV, doc, pm, an, cdv, ct, osl, e, lk, hcd⟩, F.kp⟩
def dOf (a : Str × Option Str) (nm q : Str) (st : Stmt) (dfl : List He.Dv) (kwd : List (Str × He.Dv)) : He.DefD := ⟨a, nm, q, defArgs st, defBody st, defScope st, dfl, kwd⟩
def frN (n : Nat) (k : Nat → Bool) : Bool := match n with
  | 0 => k 0
  | m + 1 => k (m + 1)
theorem frN_eq (n : Nat) (k : Nat → Bool) : frN n k = k n := by
  cases n <;> rfl
def frL : List Addr → (List Addr → Bool) → Bool
  | [], k => k []
  | a :: r, k => frN a fun a => frL r fun r => k (a :: r)
theorem frL_eq : ∀ (l : List Addr) (k : List Addr → Bool), frL l k = k l
  | [], _ => rfl
  | a :: r, k => by
    show frN a (fun a => frL r fun r => k (a :: r)) = _
    rw [frN_eq, frL_eq r]
def isNw (nw : String) : List (Option Value) → Bool
  | [_, _, _, _, some (.builtin z), _] => decide (z = nw)
  | _ => false
theorem isNw_ok {nw : String} {l : List (Option Value)} (h : isNw nw l = true) : ∃ k0 k1 k2 k3 k5 : Option Value, l = [k0, k1, k2, k3, some (.builtin nw), k5] := by
  unfold isNw at h
  split at h
  · have e := of_decide_eq_true h
    subst e
    exact ⟨_, _, _, _, _, rfl⟩
  · cases h
abbrev excT (B : String) : List Value := [.type B, .type "Exception", .type "BaseException", .type "object"]
/-- a class of refusals at C under the class at CB, which stands over the built-in B -/
def oexB (K : PySem.W.Frag) (C CB : Addr) (B nw : String) : Bool := (match K.lookup C with
  | some ⟨.type t, _, .cls cd, sl⟩ => decide (t = "type") && (decide (cd.mro = .ref C :: .ref CB :: excT B) && (cd.hasDict && (!cd.hasDel && isNw nw sl.toList)))
  | _ => false) && (He.eqO (PySem.W.findIn K (.ref C) "__setattr__") (some (some (.builtin "object.__setattr__"))) && (decide (PySem.W.subIn K (.ref C) (.type "BaseException") = some true) && (decide (PySem.W.typeIn K (.ref C) = some (.type "type")) && PySem.W.keepIn K (.ref C))))
theorem oexB_ok {K : PySem.W.Frag} {C CB : Addr} {B nw it : String} (FB : ExcBaseFacts B nw it (excT B)) (S : ∀ self : Value, refuseLoop self "__setattr__" (excT B) = pure ()) (hob : (excT B).contains (.type "object") = true) (h : oexB K C CB B nw = true) : OexG K C := by
  obtain ⟨h1, h⟩ := He.ba h
  obtain ⟨h2, h⟩ := He.ba h
  obtain ⟨h3, h⟩ := He.ba h
  obtain ⟨h4, h5⟩ := He.ba h
  refine ⟨?_, He.eqO_ok h2, of_decide_eq_true h3, of_decide_eq_true h4, h5⟩
  cases q : K.lookup C with
  | none =>
    rw [q] at h1
    cases h1
  | some o =>
    obtain ⟨oc, od, dt, osl⟩ := o
    rw [q] at h1
    cases oc with
    | type t =>
      cases dt with
      | cls cd =>
        obtain ⟨n1, n2, n3, n4, n5, n6, n7, n8, n9, n10, n11⟩ := cd
        obtain ⟨a1, h1⟩ := He.ba h1
        obtain ⟨a2, h1⟩ := He.ba h1
        obtain ⟨a3, h1⟩ := He.ba h1
        obtain ⟨a4, a5⟩ := He.ba h1
        have e1 : t = "type" := of_decide_eq_true a1
        have e2 : n3 = .ref C :: .ref CB :: excT B := of_decide_eq_true a2
        have e3 : n6 = true := a3
        have e4 : n11 = false := by
          cases n11 with
          | false => rfl
          | true => cases a4
        obtain ⟨sl⟩ := osl
        obtain ⟨k0, k1, k2, k3, k5, e5⟩ := isNw_ok a5
        have e6 : sl = [k0, k1, k2, k3, some (.builtin nw), k5] := e5
        subst e1 e2 e3 e4 e6
        exact ⟨_, _, _, _, _, _, _, _, _, _, _, _, _, _, _, B, _, _, _, FB, rfl, fun Y => by rw [List.contains_cons]; rfl, hob, fun self => by rw [refuseLoop_ref, refuseLoop_ref]; exact S self⟩
      | _ => cases h1
    | _ => cases dt <;> cases h1
def cfnB (K : PySem.W.Frag) (C g : Addr) : Bool := PySem.W.readsIn K C (.type "type") && (He.eqO (PySem.W.specialIn K (.ref C) "__getattribute__") (some (some (.builtin "type.__getattribute__"))) && ((match PySem.W.findCls K (.ref C) (.type "type") "__init__" with
  | some (.val (.ref a)) => decide (a = g)
  | _ => false) && PySem.W.keepIn K (.ref g)))
theorem cfnB_ok {K : PySem.W.Frag} {C g : Addr} (h : cfnB K C g = true) : CFn K C "__init__" g := by
  obtain ⟨h1, h⟩ := He.ba h
  obtain ⟨h2, h⟩ := He.ba h
  obtain ⟨h3, h4⟩ := He.ba h
  refine ⟨h1, He.eqO_ok h2, ?_, h4⟩
  split at h3
  · rename_i a e
    have e2 : a = g := of_decide_eq_true h3
    rw [e, e2]
  · cases h3
/-- all that is looked at of the class x, under b, with these fields -/
def leafB (K : PySem.W.Frag) (x b : Str) (B nw : String) (fl : List Str) : Bool := frN (He.ga K x) fun C => frN (He.ga K b) fun CB => oexB K C CB B nw && (cfnB K CB (He.ma K CB "__init__") && (He.eqO (PySem.W.findIn K (.ref C) "__init__") (some (some (.ref (He.ma K C "__init__")))) &&
  (decide (PySem.W.typeIn K (.ref (He.ma K C "__init__")) = some (.type "function")) && (("word" : Str) :: fl).all fun f => He.eqO (PySem.W.findIn K (.ref C) f) (some none))))
structure LeafK (K : PySem.W.Frag) (x b : Str) (fl : List Str) : Prop where
  T : OexG K (He.ga K x)
  B : CFn K (He.ga K b) "__init__" (He.ma K (He.ga K b) "__init__")
  i : PySem.W.findIn K (.ref (He.ga K x)) "__init__" = some (some (.ref (He.ma K (He.ga K x) "__init__")))
  t : PySem.W.typeIn K (.ref (He.ma K (He.ga K x) "__init__")) = some (.type "function")
  n : ∀ f ∈ ("word" : Str) :: fl, PySem.W.findIn K (.ref (He.ga K x)) f = some none
theorem leafB_ok {K : PySem.W.Frag} {x b : Str} {B nw it : String} {fl : List Str} (FB : ExcBaseFacts B nw it (excT B)) (S : ∀ self : Value, refuseLoop self "__setattr__" (excT B) = pure ()) (hob : (excT B).contains (.type "object") = true) (h : leafB K x b B nw fl = true) : LeafK K x b fl := by
  unfold leafB at h
  rw [frN_eq, frN_eq] at h
  obtain ⟨h1, h⟩ := He.ba h
  obtain ⟨h2, h⟩ := He.ba h
  obtain ⟨h3, h⟩ := He.ba h
  obtain ⟨h4, h5⟩ := He.ba h
  exact ⟨oexB_ok FB S hob h1, cfnB_ok h2, He.eqO_ok h3, of_decide_eq_true h4, fun f hf => He.eqO_ok (List.all_eq_true.mp h5 f hf)⟩
theorem leafV {K : PySem.W.Frag} {x b : Str} {fl : List Str} (h : leafB K x b "ValueError" "ValueError.__new__" fl = true) : LeafK K x b fl := leafB_ok F.excBase_ValueError F.store_ValueError.passes (by decide +kernel) h
theorem leafL {K : PySem.W.Frag} {x b : Str} {fl : List Str} (h : leafB K x b "LookupError" "LookupError.__new__" fl = true) : LeafK K x b fl := leafB_ok F.excBase_LookupError F.store_LookupError.passes (by decide +kernel) h
theorem leafR {K : PySem.W.Frag} {x b : Str} {fl : List Str} (h : leafB K x b "RuntimeError" "RuntimeError.__new__" fl = true) : LeafK K x b fl := leafB_ok F.excBase_RuntimeError F.store_RuntimeError.passes (by decide +kernel) h
/-! ### the Hook: what the top's names reach in n steps, and the statics (which readsIn asks for) -/
def wide (g : Addr → Option Obj) (n : Nat) : List Addr := PySem.cStatics :: He.asD g n
theorem tabs_out {g : Addr → Option Obj} {tf : List He.Defn} {as : List Addr} (h : He.tabsB g tf (He.frT g as) = true) (p : He.Defn) (hp : p ∈ tf) :
    PySem.W.codeHdIn (He.frT g as) (He.cT (He.frT g as) p).1 (He.cT (He.frT g as) p).2 = true ∧ (He.frT g as).lookup (He.cT (He.frT g as) p).2 = none ∧ g (He.cT (He.frT g as) p).2 = some { cls := .none, data := .fields #[] } := by
  have z := List.all_eq_true.mp h p hp
  obtain ⟨z1, z2⟩ := He.ba z
  generalize (He.cT (He.frT g as) p).2 = t at z1 z2 ⊢
  cases e : g t with
  | none =>
    rw [e] at z2
    cases z2
  | some u =>
    rw [e] at z2
    exact ⟨z1, He.frT_none e z2, congrArg some (He.emptyTab_eq z2)⟩
def lookS (n : Nat) (fa : List He.Fa) (fn : List He.DefD) (tf : List He.Defn) (ex : PySem.W.Frag → Bool) (g : Addr → Option Obj) : He.AlX :=
  (He.obsT fa fn [] (He.frT g (wide g n)), ex (He.frT g (wide g n)) && He.tabsB g tf (He.frT g (wide g n)))
theorem lookS_says {n : Nat} {fa : List He.Fa} {fn : List He.DefD} {tf : List He.Defn} {ex : PySem.W.Frag → Bool} {w : World} {h : Heap} (e : lookS n fa fn tf ex h.get? = He.valX fn [] w) : He.SaysX fa fn [] tf ex w h (He.frT h.get? (wide h.get? n)) := by
  have a : _ = He.valT fn [] w := congrArg Prod.fst e
  obtain ⟨b, c⟩ := He.ba (show _ = true from congrArg Prod.snd e)
  exact { t := a, more := b, hd := fun p hp => (tabs_out c p hp).1, out := fun p hp => (tabs_out c p hp).2.1, empty := fun p hp => (tabs_out c p hp).2.2 }
def hookS (n : Nat) (fa : List He.Fa) (fn : List He.DefD) (tf : List He.Defn) (ex : PySem.W.Frag → Bool) : PySem.W.Hook :=
  { α := He.AlX, obs := fun s => lookS n fa fn tf ex s.heap.get?, val := He.valX fn [], says := fun w h => ∃ K : PySem.W.Frag, K.In h ∧ He.SaysX fa fn [] tf ex w h K, of := fun w s e => ⟨_, He.frT_in, lookS_says e⟩,
    keeps := fun w h h' y k => by
      obtain ⟨K, i, c⟩ := y
      exact ⟨K, PySem.W.Frag.In.keeps i k, { t := c.t, more := c.more, hd := c.hd, out := c.out, empty := fun p hp => k _ _ (c.empty p hp) }⟩ }
theorem lookS_eq {n : Nat} {fa : List He.Fa} {fn : List He.DefD} {tf : List He.Defn} {ex : PySem.W.Frag → Bool} (s : PySem.W.SharedT) : lookS n fa fn tf ex (HandSHeadRun.getT s) = (hookS n fa fn tf ex).obs s.abs := by
  rw [show HandSHeadRun.getT s = s.abs.heap.get? from funext (HandSHeadRun.getT_eq s)]
  rfl
/-! ### the __init__s of the refusals -/
theorem ws_0 {ws : List V} (h : ws.length = 0) : ws = [] := List.length_eq_zero_iff.mp h
theorem ws_1 {ws : List V} (h : ws.length = 1) : ∃ a, ws = [a] := match ws, h with | [a], _ => ⟨a, rfl⟩
theorem ws_2 {ws : List V} (h : ws.length = 2) : ∃ a b, ws = [a, b] := match ws, h with | [a, b], _ => ⟨a, b, rfl⟩
abbrev sI_TearError : Stmt := inClass (topS 1) 0
theorem scI_TearError : FnScope ["self", "word"] ["self", "word"] (defScope sI_TearError) := ⟨rfl, rfl, rfl, by decide +kernel, rfl, by decide +kernel, by decide +kernel⟩
theorem okI_TearError {P : Program} {w : World} {K : PySem.W.Frag} {mg : Str → Option Value} {base : Heap} {f : Addr} {fd : FuncData} {k : Nat} {ds : List V} (F : FunD K "__init__" "TearError.__init__" (defArgs sI_TearError) (defBody sI_TearError) (defScope sI_TearError) ds [] f fd) :
    FnOk P w K mg base CX0 (k + 1) f fd ["self", "word"] (spBase K) := by
  refine F.ok (CX := CX0) scI_TearError (fun vs H Q E h => ?_) (fun cdv A outer s H vs Q E hr h => ?_)
  · obtain ⟨a, C, y, rfl, _⟩ := h
    rfl
  · obtain ⟨a, C, y, rfl, T, hw, ha, q⟩ := h
    refine ⟨_, PSs.nox (pss_one (ps_gst (pv 0) (pv 1) rfl)), ?_⟩
    exact ⟨y, rfl, .ref a, rfl, a, C, rfl, T, hw, .inl ⟨ha, fun dx h1 h2 => q dx h1 h2⟩⟩
abbrev sI_Missing : Stmt := inClass (topS 25) 0
theorem scI_Missing : FnScope ["self", "word"] ["self", "word"] (defScope sI_Missing) := ⟨rfl, rfl, rfl, by decide +kernel, rfl, by decide +kernel, by decide +kernel⟩
theorem okI_Missing {P : Program} {w : World} {K : PySem.W.Frag} {mg : Str → Option Value} {base : Heap} {f : Addr} {fd : FuncData} {k : Nat} {ds : List V} (F : FunD K "__init__" "Missing.__init__" (defArgs sI_Missing) (defBody sI_Missing) (defScope sI_Missing) ds [] f fd) :
    FnOk P w K mg base CX0 (k + 1) f fd ["self", "word"] (spBase K) := by
  refine F.ok (CX := CX0) scI_Missing (fun vs H Q E h => ?_) (fun cdv A outer s H vs Q E hr h => ?_)
  · obtain ⟨a, C, y, rfl, _⟩ := h
    rfl
  · obtain ⟨a, C, y, rfl, T, hw, ha, q⟩ := h
    refine ⟨_, PSs.nox (pss_one (ps_gst (pv 0) (pv 1) rfl)), ?_⟩
    exact ⟨y, rfl, .ref a, rfl, a, C, rfl, T, hw, .inl ⟨ha, fun dx h1 h2 => q dx h1 h2⟩⟩
abbrev sI_Stuck : Stmt := inClass (topS 29) 0
theorem scI_Stuck : FnScope ["self", "word"] ["self", "word"] (defScope sI_Stuck) := ⟨rfl, rfl, rfl, by decide +kernel, rfl, by decide +kernel, by decide +kernel⟩
theorem okI_Stuck {P : Program} {w : World} {K : PySem.W.Frag} {mg : Str → Option Value} {base : Heap} {f : Addr} {fd : FuncData} {k : Nat} {ds : List V} (F : FunD K "__init__" "Stuck.__init__" (defArgs sI_Stuck) (defBody sI_Stuck) (defScope sI_Stuck) ds [] f fd) :
    FnOk P w K mg base CX0 (k + 1) f fd ["self", "word"] (spBase K) := by
  refine F.ok (CX := CX0) scI_Stuck (fun vs H Q E h => ?_) (fun cdv A outer s H vs Q E hr h => ?_)
  · obtain ⟨a, C, y, rfl, _⟩ := h
    rfl
  · obtain ⟨a, C, y, rfl, T, hw, ha, q⟩ := h
    refine ⟨_, PSs.nox (pss_one (ps_gst (pv 0) (pv 1) rfl)), ?_⟩
    exact ⟨y, rfl, .ref a, rfl, a, C, rfl, T, hw, .inl ⟨ha, fun dx h1 h2 => q dx h1 h2⟩⟩
abbrev sI_BadColours : Stmt := inClass (topS 2) 0
theorem scI_BadColours : FnScope ["self", "at"] ["self", "at"] (defScope sI_BadColours) := ⟨rfl, rfl, rfl, by decide +kernel, rfl, by decide +kernel, by decide +kernel⟩
theorem okI_BadColours {P : Program} {w : World} {K : PySem.W.Frag} {mg : Str → Option Value} {base : Heap} {f C CB fB : Addr} {fd fdB : FuncData} {k : Nat} (F : Fun K "__init__" "BadColours.__init__" sI_BadColours f fd) (T : OexG K C) (hw : PySem.W.findIn K (.ref C) "word" = some none) (n_at : PySem.W.findIn K (.ref C) "at" = some none)
    (B : CFn K CB "__init__" fB) (GB : FnOk P w K mg base CX0 k fB fdB ["self", "word"] (spBase K)) (bB : Binds K fdB ["self", "word"] []) (mB : mg "TearError" = some (.ref CB)) :
    FnOk P w K mg base CX0 (k + 1) f fd ["self", "at"] (spMade C 1 (fun ws => [("at", ws.getD 0 .non), ("word", .str "BadColours")])) := by
  refine F.ok scI_BadColours (fun vs H Q E h => ?_) (fun cdv A outer s H vs Q E hr h => ?_)
  · obtain ⟨a, ws, rfl, hl, _⟩ := h
    rw [List.length_cons, hl]
    rfl
  · obtain ⟨a, ws, rfl, hl, ha, q⟩ := h
    obtain ⟨y0, rfl⟩ := ws_1 hl
    refine ⟨_, pss_cons (ps_expr (pe_cfn B GB hr bB .nil pass0 (by rfl) mB (pa_cons (pv 0) (pa_cons pe_str pa_nil)))) (pss_one (ps_gst (pv 0) (pv 1) rfl)), ?_⟩
    refine ⟨.ref a, rfl, a, C, _, rfl, T, hw, ha, fun dx h1 h2 => ?_⟩
    have nn : a ≠ dx := fun z => h2 z.symm
    refine ⟨y0, rfl, .ref a, rfl, a, C, rfl, T, n_at, .inr ⟨dx, _, by rw [upd_same], by rw [upd_ne h2, upd_same], by simp, ?_⟩⟩
    refine q dx _ h1 h2 (fun b b1 b2 => ?_) ?_ ?_
    · rw [upd_ne b2, upd_ne b1, upd_ne b2]
    · rw [upd_ne nn, upd_same]
    · rw [upd_same]
      rfl
abbrev sI_BadFigure : Stmt := inClass (topS 3) 0
theorem scI_BadFigure : FnScope ["self", "at"] ["self", "at"] (defScope sI_BadFigure) := ⟨rfl, rfl, rfl, by decide +kernel, rfl, by decide +kernel, by decide +kernel⟩
theorem okI_BadFigure {P : Program} {w : World} {K : PySem.W.Frag} {mg : Str → Option Value} {base : Heap} {f C CB fB : Addr} {fd fdB : FuncData} {k : Nat} (F : Fun K "__init__" "BadFigure.__init__" sI_BadFigure f fd) (T : OexG K C) (hw : PySem.W.findIn K (.ref C) "word" = some none) (n_at : PySem.W.findIn K (.ref C) "at" = some none)
    (B : CFn K CB "__init__" fB) (GB : FnOk P w K mg base CX0 k fB fdB ["self", "word"] (spBase K)) (bB : Binds K fdB ["self", "word"] []) (mB : mg "TearError" = some (.ref CB)) :
    FnOk P w K mg base CX0 (k + 1) f fd ["self", "at"] (spMade C 1 (fun ws => [("at", ws.getD 0 .non), ("word", .str "BadFigure")])) := by
  refine F.ok scI_BadFigure (fun vs H Q E h => ?_) (fun cdv A outer s H vs Q E hr h => ?_)
  · obtain ⟨a, ws, rfl, hl, _⟩ := h
    rw [List.length_cons, hl]
    rfl
  · obtain ⟨a, ws, rfl, hl, ha, q⟩ := h
    obtain ⟨y0, rfl⟩ := ws_1 hl
    refine ⟨_, pss_cons (ps_expr (pe_cfn B GB hr bB .nil pass0 (by rfl) mB (pa_cons (pv 0) (pa_cons pe_str pa_nil)))) (pss_one (ps_gst (pv 0) (pv 1) rfl)), ?_⟩
    refine ⟨.ref a, rfl, a, C, _, rfl, T, hw, ha, fun dx h1 h2 => ?_⟩
    have nn : a ≠ dx := fun z => h2 z.symm
    refine ⟨y0, rfl, .ref a, rfl, a, C, rfl, T, n_at, .inr ⟨dx, _, by rw [upd_same], by rw [upd_ne h2, upd_same], by simp, ?_⟩⟩
    refine q dx _ h1 h2 (fun b b1 b2 => ?_) ?_ ?_
    · rw [upd_ne b2, upd_ne b1, upd_ne b2]
    · rw [upd_ne nn, upd_same]
    · rw [upd_same]
      rfl
abbrev sI_Meeting : Stmt := inClass (topS 4) 0
theorem scI_Meeting : FnScope ["self", "one", "other"] ["self", "one", "other"] (defScope sI_Meeting) := ⟨rfl, rfl, rfl, by decide +kernel, rfl, by decide +kernel, by decide +kernel⟩
theorem okI_Meeting {P : Program} {w : World} {K : PySem.W.Frag} {mg : Str → Option Value} {base : Heap} {f C CB fB : Addr} {fd fdB : FuncData} {k : Nat} (F : Fun K "__init__" "Meeting.__init__" sI_Meeting f fd) (T : OexG K C) (hw : PySem.W.findIn K (.ref C) "word" = some none) (n_one : PySem.W.findIn K (.ref C) "one" = some none) (n_other : PySem.W.findIn K (.ref C) "other" = some none)
    (B : CFn K CB "__init__" fB) (GB : FnOk P w K mg base CX0 k fB fdB ["self", "word"] (spBase K)) (bB : Binds K fdB ["self", "word"] []) (mB : mg "TearError" = some (.ref CB)) :
    FnOk P w K mg base CX0 (k + 1) f fd ["self", "one", "other"] (spMade C 2 (fun ws => [("other", ws.getD 1 .non), ("one", ws.getD 0 .non), ("word", .str "Meeting")])) := by
  refine F.ok scI_Meeting (fun vs H Q E h => ?_) (fun cdv A outer s H vs Q E hr h => ?_)
  · obtain ⟨a, ws, rfl, hl, _⟩ := h
    rw [List.length_cons, hl]
    rfl
  · obtain ⟨a, ws, rfl, hl, ha, q⟩ := h
    obtain ⟨y0, y1, rfl⟩ := ws_2 hl
    refine ⟨_, pss_cons (ps_expr (pe_cfn B GB hr bB .nil pass0 (by rfl) mB (pa_cons (pv 0) (pa_cons pe_str pa_nil)))) (pss_cons (ps_gst (pv 0) (pv 1) rfl) (pss_one (ps_gst (pv 0) (pv 2) rfl))), ?_⟩
    refine ⟨.ref a, rfl, a, C, _, rfl, T, hw, ha, fun dx h1 h2 => ?_⟩
    have nn : a ≠ dx := fun z => h2 z.symm
    refine ⟨y0, rfl, .ref a, rfl, a, C, rfl, T, n_one, .inr ⟨dx, _, by rw [upd_same], by rw [upd_ne h2, upd_same], by simp, ?_⟩⟩
    refine ⟨y1, rfl, .ref a, rfl, a, C, rfl, T, n_other, .inr ⟨dx, _, by rw [upd_ne nn, upd_same], by rw [upd_same], by simp, ?_⟩⟩
    refine q dx _ h1 h2 (fun b b1 b2 => ?_) ?_ ?_
    · rw [upd_ne b2, upd_ne b2, upd_ne b1, upd_ne b2]
    · rw [upd_ne nn, upd_ne nn, upd_same]
    · rw [upd_same]
      rfl
abbrev sI_TooMany : Stmt := inClass (topS 5) 0
theorem scI_TooMany : FnScope ["self", "most"] ["self", "most"] (defScope sI_TooMany) := ⟨rfl, rfl, rfl, by decide +kernel, rfl, by decide +kernel, by decide +kernel⟩
theorem okI_TooMany {P : Program} {w : World} {K : PySem.W.Frag} {mg : Str → Option Value} {base : Heap} {f C CB fB : Addr} {fd fdB : FuncData} {k : Nat} (F : Fun K "__init__" "TooMany.__init__" sI_TooMany f fd) (T : OexG K C) (hw : PySem.W.findIn K (.ref C) "word" = some none) (n_most : PySem.W.findIn K (.ref C) "most" = some none)
    (B : CFn K CB "__init__" fB) (GB : FnOk P w K mg base CX0 k fB fdB ["self", "word"] (spBase K)) (bB : Binds K fdB ["self", "word"] []) (mB : mg "TearError" = some (.ref CB)) :
    FnOk P w K mg base CX0 (k + 1) f fd ["self", "most"] (spMade C 1 (fun ws => [("most", ws.getD 0 .non), ("word", .str "TooMany")])) := by
  refine F.ok scI_TooMany (fun vs H Q E h => ?_) (fun cdv A outer s H vs Q E hr h => ?_)
  · obtain ⟨a, ws, rfl, hl, _⟩ := h
    rw [List.length_cons, hl]
    rfl
  · obtain ⟨a, ws, rfl, hl, ha, q⟩ := h
    obtain ⟨y0, rfl⟩ := ws_1 hl
    refine ⟨_, pss_cons (ps_expr (pe_cfn B GB hr bB .nil pass0 (by rfl) mB (pa_cons (pv 0) (pa_cons pe_str pa_nil)))) (pss_one (ps_gst (pv 0) (pv 1) rfl)), ?_⟩
    refine ⟨.ref a, rfl, a, C, _, rfl, T, hw, ha, fun dx h1 h2 => ?_⟩
    have nn : a ≠ dx := fun z => h2 z.symm
    refine ⟨y0, rfl, .ref a, rfl, a, C, rfl, T, n_most, .inr ⟨dx, _, by rw [upd_same], by rw [upd_ne h2, upd_same], by simp, ?_⟩⟩
    refine q dx _ h1 h2 (fun b b1 b2 => ?_) ?_ ?_
    · rw [upd_ne b2, upd_ne b1, upd_ne b2]
    · rw [upd_ne nn, upd_same]
    · rw [upd_same]
      rfl
abbrev sI_TooFar : Stmt := inClass (topS 6) 0
theorem scI_TooFar : FnScope ["self", "most"] ["self", "most"] (defScope sI_TooFar) := ⟨rfl, rfl, rfl, by decide +kernel, rfl, by decide +kernel, by decide +kernel⟩
theorem okI_TooFar {P : Program} {w : World} {K : PySem.W.Frag} {mg : Str → Option Value} {base : Heap} {f C CB fB : Addr} {fd fdB : FuncData} {k : Nat} (F : Fun K "__init__" "TooFar.__init__" sI_TooFar f fd) (T : OexG K C) (hw : PySem.W.findIn K (.ref C) "word" = some none) (n_most : PySem.W.findIn K (.ref C) "most" = some none)
    (B : CFn K CB "__init__" fB) (GB : FnOk P w K mg base CX0 k fB fdB ["self", "word"] (spBase K)) (bB : Binds K fdB ["self", "word"] []) (mB : mg "TearError" = some (.ref CB)) :
    FnOk P w K mg base CX0 (k + 1) f fd ["self", "most"] (spMade C 1 (fun ws => [("most", ws.getD 0 .non), ("word", .str "TooFar")])) := by
  refine F.ok scI_TooFar (fun vs H Q E h => ?_) (fun cdv A outer s H vs Q E hr h => ?_)
  · obtain ⟨a, ws, rfl, hl, _⟩ := h
    rw [List.length_cons, hl]
    rfl
  · obtain ⟨a, ws, rfl, hl, ha, q⟩ := h
    obtain ⟨y0, rfl⟩ := ws_1 hl
    refine ⟨_, pss_cons (ps_expr (pe_cfn B GB hr bB .nil pass0 (by rfl) mB (pa_cons (pv 0) (pa_cons pe_str pa_nil)))) (pss_one (ps_gst (pv 0) (pv 1) rfl)), ?_⟩
    refine ⟨.ref a, rfl, a, C, _, rfl, T, hw, ha, fun dx h1 h2 => ?_⟩
    have nn : a ≠ dx := fun z => h2 z.symm
    refine ⟨y0, rfl, .ref a, rfl, a, C, rfl, T, n_most, .inr ⟨dx, _, by rw [upd_same], by rw [upd_ne h2, upd_same], by simp, ?_⟩⟩
    refine q dx _ h1 h2 (fun b b1 b2 => ?_) ?_ ?_
    · rw [upd_ne b2, upd_ne b1, upd_ne b2]
    · rw [upd_ne nn, upd_same]
    · rw [upd_same]
      rfl
abbrev sI_BadOrder : Stmt := inClass (topS 7) 0
theorem scI_BadOrder : FnScope ["self"] ["self"] (defScope sI_BadOrder) := ⟨rfl, rfl, rfl, by decide +kernel, rfl, by decide +kernel, by decide +kernel⟩
theorem okI_BadOrder {P : Program} {w : World} {K : PySem.W.Frag} {mg : Str → Option Value} {base : Heap} {f C CB fB : Addr} {fd fdB : FuncData} {k : Nat} (F : Fun K "__init__" "BadOrder.__init__" sI_BadOrder f fd) (T : OexG K C) (hw : PySem.W.findIn K (.ref C) "word" = some none)
    (B : CFn K CB "__init__" fB) (GB : FnOk P w K mg base CX0 k fB fdB ["self", "word"] (spBase K)) (bB : Binds K fdB ["self", "word"] []) (mB : mg "TearError" = some (.ref CB)) :
    FnOk P w K mg base CX0 (k + 1) f fd ["self"] (spMade C 0 (fun ws => [("word", .str "BadOrder")])) := by
  refine F.ok scI_BadOrder (fun vs H Q E h => ?_) (fun cdv A outer s H vs Q E hr h => ?_)
  · obtain ⟨a, ws, rfl, hl, _⟩ := h
    rw [List.length_cons, hl]
    rfl
  · obtain ⟨a, ws, rfl, hl, ha, q⟩ := h
    obtain rfl := ws_0 hl
    refine ⟨_, pss_one (ps_expr (pe_cfn B GB hr bB .nil pass0 (by rfl) mB (pa_cons (pv 0) (pa_cons pe_str pa_nil)))), ?_⟩
    refine ⟨.ref a, rfl, a, C, _, rfl, T, hw, ha, fun dx h1 h2 => ?_⟩
    have nn : a ≠ dx := fun z => h2 z.symm
    refine q dx _ h1 h2 (fun b b1 b2 => ?_) upd_same ?_
    · rw [upd_ne b1, upd_ne b2]
    · rw [upd_ne h2, upd_same]
abbrev sI_OtherColours : Stmt := inClass (topS 8) 0
theorem scI_OtherColours : FnScope ["self"] ["self"] (defScope sI_OtherColours) := ⟨rfl, rfl, rfl, by decide +kernel, rfl, by decide +kernel, by decide +kernel⟩
theorem okI_OtherColours {P : Program} {w : World} {K : PySem.W.Frag} {mg : Str → Option Value} {base : Heap} {f C CB fB : Addr} {fd fdB : FuncData} {k : Nat} (F : Fun K "__init__" "OtherColours.__init__" sI_OtherColours f fd) (T : OexG K C) (hw : PySem.W.findIn K (.ref C) "word" = some none)
    (B : CFn K CB "__init__" fB) (GB : FnOk P w K mg base CX0 k fB fdB ["self", "word"] (spBase K)) (bB : Binds K fdB ["self", "word"] []) (mB : mg "TearError" = some (.ref CB)) :
    FnOk P w K mg base CX0 (k + 1) f fd ["self"] (spMade C 0 (fun ws => [("word", .str "OtherColours")])) := by
  refine F.ok scI_OtherColours (fun vs H Q E h => ?_) (fun cdv A outer s H vs Q E hr h => ?_)
  · obtain ⟨a, ws, rfl, hl, _⟩ := h
    rw [List.length_cons, hl]
    rfl
  · obtain ⟨a, ws, rfl, hl, ha, q⟩ := h
    obtain rfl := ws_0 hl
    refine ⟨_, pss_one (ps_expr (pe_cfn B GB hr bB .nil pass0 (by rfl) mB (pa_cons (pv 0) (pa_cons pe_str pa_nil)))), ?_⟩
    refine ⟨.ref a, rfl, a, C, _, rfl, T, hw, ha, fun dx h1 h2 => ?_⟩
    have nn : a ≠ dx := fun z => h2 z.symm
    refine q dx _ h1 h2 (fun b b1 b2 => ?_) upd_same ?_
    · rw [upd_ne b1, upd_ne b2]
    · rw [upd_ne h2, upd_same]
abbrev sI_OtherBook : Stmt := inClass (topS 9) 0
theorem scI_OtherBook : FnScope ["self"] ["self"] (defScope sI_OtherBook) := ⟨rfl, rfl, rfl, by decide +kernel, rfl, by decide +kernel, by decide +kernel⟩
theorem okI_OtherBook {P : Program} {w : World} {K : PySem.W.Frag} {mg : Str → Option Value} {base : Heap} {f C CB fB : Addr} {fd fdB : FuncData} {k : Nat} (F : Fun K "__init__" "OtherBook.__init__" sI_OtherBook f fd) (T : OexG K C) (hw : PySem.W.findIn K (.ref C) "word" = some none)
    (B : CFn K CB "__init__" fB) (GB : FnOk P w K mg base CX0 k fB fdB ["self", "word"] (spBase K)) (bB : Binds K fdB ["self", "word"] []) (mB : mg "TearError" = some (.ref CB)) :
    FnOk P w K mg base CX0 (k + 1) f fd ["self"] (spMade C 0 (fun ws => [("word", .str "OtherBook")])) := by
  refine F.ok scI_OtherBook (fun vs H Q E h => ?_) (fun cdv A outer s H vs Q E hr h => ?_)
  · obtain ⟨a, ws, rfl, hl, _⟩ := h
    rw [List.length_cons, hl]
    rfl
  · obtain ⟨a, ws, rfl, hl, ha, q⟩ := h
    obtain rfl := ws_0 hl
    refine ⟨_, pss_one (ps_expr (pe_cfn B GB hr bB .nil pass0 (by rfl) mB (pa_cons (pv 0) (pa_cons pe_str pa_nil)))), ?_⟩
    refine ⟨.ref a, rfl, a, C, _, rfl, T, hw, ha, fun dx h1 h2 => ?_⟩
    have nn : a ≠ dx := fun z => h2 z.symm
    refine q dx _ h1 h2 (fun b b1 b2 => ?_) upd_same ?_
    · rw [upd_ne b1, upd_ne b2]
    · rw [upd_ne h2, upd_same]
abbrev sI_BadRow : Stmt := inClass (topS 10) 0
theorem scI_BadRow : FnScope ["self", "at"] ["self", "at"] (defScope sI_BadRow) := ⟨rfl, rfl, rfl, by decide +kernel, rfl, by decide +kernel, by decide +kernel⟩
theorem okI_BadRow {P : Program} {w : World} {K : PySem.W.Frag} {mg : Str → Option Value} {base : Heap} {f C CB fB : Addr} {fd fdB : FuncData} {k : Nat} (F : Fun K "__init__" "BadRow.__init__" sI_BadRow f fd) (T : OexG K C) (hw : PySem.W.findIn K (.ref C) "word" = some none) (n_at : PySem.W.findIn K (.ref C) "at" = some none)
    (B : CFn K CB "__init__" fB) (GB : FnOk P w K mg base CX0 k fB fdB ["self", "word"] (spBase K)) (bB : Binds K fdB ["self", "word"] []) (mB : mg "TearError" = some (.ref CB)) :
    FnOk P w K mg base CX0 (k + 1) f fd ["self", "at"] (spMade C 1 (fun ws => [("at", ws.getD 0 .non), ("word", .str "BadRow")])) := by
  refine F.ok scI_BadRow (fun vs H Q E h => ?_) (fun cdv A outer s H vs Q E hr h => ?_)
  · obtain ⟨a, ws, rfl, hl, _⟩ := h
    rw [List.length_cons, hl]
    rfl
  · obtain ⟨a, ws, rfl, hl, ha, q⟩ := h
    obtain ⟨y0, rfl⟩ := ws_1 hl
    refine ⟨_, pss_cons (ps_expr (pe_cfn B GB hr bB .nil pass0 (by rfl) mB (pa_cons (pv 0) (pa_cons pe_str pa_nil)))) (pss_one (ps_gst (pv 0) (pv 1) rfl)), ?_⟩
    refine ⟨.ref a, rfl, a, C, _, rfl, T, hw, ha, fun dx h1 h2 => ?_⟩
    have nn : a ≠ dx := fun z => h2 z.symm
    refine ⟨y0, rfl, .ref a, rfl, a, C, rfl, T, n_at, .inr ⟨dx, _, by rw [upd_same], by rw [upd_ne h2, upd_same], by simp, ?_⟩⟩
    refine q dx _ h1 h2 (fun b b1 b2 => ?_) ?_ ?_
    · rw [upd_ne b2, upd_ne b1, upd_ne b2]
    · rw [upd_ne nn, upd_same]
    · rw [upd_same]
      rfl
abbrev sI_BadNote : Stmt := inClass (topS 11) 0
theorem scI_BadNote : FnScope ["self", "note"] ["self", "note"] (defScope sI_BadNote) := ⟨rfl, rfl, rfl, by decide +kernel, rfl, by decide +kernel, by decide +kernel⟩
theorem okI_BadNote {P : Program} {w : World} {K : PySem.W.Frag} {mg : Str → Option Value} {base : Heap} {f C CB fB : Addr} {fd fdB : FuncData} {k : Nat} (F : Fun K "__init__" "BadNote.__init__" sI_BadNote f fd) (T : OexG K C) (hw : PySem.W.findIn K (.ref C) "word" = some none) (n_note : PySem.W.findIn K (.ref C) "note" = some none)
    (B : CFn K CB "__init__" fB) (GB : FnOk P w K mg base CX0 k fB fdB ["self", "word"] (spBase K)) (bB : Binds K fdB ["self", "word"] []) (mB : mg "TearError" = some (.ref CB)) :
    FnOk P w K mg base CX0 (k + 1) f fd ["self", "note"] (spMade C 1 (fun ws => [("note", ws.getD 0 .non), ("word", .str "BadNote")])) := by
  refine F.ok scI_BadNote (fun vs H Q E h => ?_) (fun cdv A outer s H vs Q E hr h => ?_)
  · obtain ⟨a, ws, rfl, hl, _⟩ := h
    rw [List.length_cons, hl]
    rfl
  · obtain ⟨a, ws, rfl, hl, ha, q⟩ := h
    obtain ⟨y0, rfl⟩ := ws_1 hl
    refine ⟨_, pss_cons (ps_expr (pe_cfn B GB hr bB .nil pass0 (by rfl) mB (pa_cons (pv 0) (pa_cons pe_str pa_nil)))) (pss_one (ps_gst (pv 0) (pv 1) rfl)), ?_⟩
    refine ⟨.ref a, rfl, a, C, _, rfl, T, hw, ha, fun dx h1 h2 => ?_⟩
    have nn : a ≠ dx := fun z => h2 z.symm
    refine ⟨y0, rfl, .ref a, rfl, a, C, rfl, T, n_note, .inr ⟨dx, _, by rw [upd_same], by rw [upd_ne h2, upd_same], by simp, ?_⟩⟩
    refine q dx _ h1 h2 (fun b b1 b2 => ?_) ?_ ?_
    · rw [upd_ne b2, upd_ne b1, upd_ne b2]
    · rw [upd_ne nn, upd_same]
    · rw [upd_same]
      rfl
abbrev sI_BadBeneath : Stmt := inClass (topS 12) 0
theorem scI_BadBeneath : FnScope ["self"] ["self"] (defScope sI_BadBeneath) := ⟨rfl, rfl, rfl, by decide +kernel, rfl, by decide +kernel, by decide +kernel⟩
theorem okI_BadBeneath {P : Program} {w : World} {K : PySem.W.Frag} {mg : Str → Option Value} {base : Heap} {f C CB fB : Addr} {fd fdB : FuncData} {k : Nat} (F : Fun K "__init__" "BadBeneath.__init__" sI_BadBeneath f fd) (T : OexG K C) (hw : PySem.W.findIn K (.ref C) "word" = some none)
    (B : CFn K CB "__init__" fB) (GB : FnOk P w K mg base CX0 k fB fdB ["self", "word"] (spBase K)) (bB : Binds K fdB ["self", "word"] []) (mB : mg "TearError" = some (.ref CB)) :
    FnOk P w K mg base CX0 (k + 1) f fd ["self"] (spMade C 0 (fun ws => [("word", .str "BadBeneath")])) := by
  refine F.ok scI_BadBeneath (fun vs H Q E h => ?_) (fun cdv A outer s H vs Q E hr h => ?_)
  · obtain ⟨a, ws, rfl, hl, _⟩ := h
    rw [List.length_cons, hl]
    rfl
  · obtain ⟨a, ws, rfl, hl, ha, q⟩ := h
    obtain rfl := ws_0 hl
    refine ⟨_, pss_one (ps_expr (pe_cfn B GB hr bB .nil pass0 (by rfl) mB (pa_cons (pv 0) (pa_cons pe_str pa_nil)))), ?_⟩
    refine ⟨.ref a, rfl, a, C, _, rfl, T, hw, ha, fun dx h1 h2 => ?_⟩
    have nn : a ≠ dx := fun z => h2 z.symm
    refine q dx _ h1 h2 (fun b b1 b2 => ?_) upd_same ?_
    · rw [upd_ne b1, upd_ne b2]
    · rw [upd_ne h2, upd_same]
abbrev sI_Full : Stmt := inClass (topS 13) 0
theorem scI_Full : FnScope ["self", "pad"] ["self", "pad"] (defScope sI_Full) := ⟨rfl, rfl, rfl, by decide +kernel, rfl, by decide +kernel, by decide +kernel⟩
theorem okI_Full {P : Program} {w : World} {K : PySem.W.Frag} {mg : Str → Option Value} {base : Heap} {f C CB fB : Addr} {fd fdB : FuncData} {k : Nat} (F : Fun K "__init__" "Full.__init__" sI_Full f fd) (T : OexG K C) (hw : PySem.W.findIn K (.ref C) "word" = some none) (n_pad : PySem.W.findIn K (.ref C) "pad" = some none)
    (B : CFn K CB "__init__" fB) (GB : FnOk P w K mg base CX0 k fB fdB ["self", "word"] (spBase K)) (bB : Binds K fdB ["self", "word"] []) (mB : mg "TearError" = some (.ref CB)) :
    FnOk P w K mg base CX0 (k + 1) f fd ["self", "pad"] (spMade C 1 (fun ws => [("pad", ws.getD 0 .non), ("word", .str "Full")])) := by
  refine F.ok scI_Full (fun vs H Q E h => ?_) (fun cdv A outer s H vs Q E hr h => ?_)
  · obtain ⟨a, ws, rfl, hl, _⟩ := h
    rw [List.length_cons, hl]
    rfl
  · obtain ⟨a, ws, rfl, hl, ha, q⟩ := h
    obtain ⟨y0, rfl⟩ := ws_1 hl
    refine ⟨_, pss_cons (ps_expr (pe_cfn B GB hr bB .nil pass0 (by rfl) mB (pa_cons (pv 0) (pa_cons pe_str pa_nil)))) (pss_one (ps_gst (pv 0) (pv 1) rfl)), ?_⟩
    refine ⟨.ref a, rfl, a, C, _, rfl, T, hw, ha, fun dx h1 h2 => ?_⟩
    have nn : a ≠ dx := fun z => h2 z.symm
    refine ⟨y0, rfl, .ref a, rfl, a, C, rfl, T, n_pad, .inr ⟨dx, _, by rw [upd_same], by rw [upd_ne h2, upd_same], by simp, ?_⟩⟩
    refine q dx _ h1 h2 (fun b b1 b2 => ?_) ?_ ?_
    · rw [upd_ne b2, upd_ne b1, upd_ne b2]
    · rw [upd_ne nn, upd_same]
    · rw [upd_same]
      rfl
abbrev sI_NoEnd : Stmt := inClass (topS 14) 0
theorem scI_NoEnd : FnScope ["self", "pad"] ["self", "pad"] (defScope sI_NoEnd) := ⟨rfl, rfl, rfl, by decide +kernel, rfl, by decide +kernel, by decide +kernel⟩
theorem okI_NoEnd {P : Program} {w : World} {K : PySem.W.Frag} {mg : Str → Option Value} {base : Heap} {f C CB fB : Addr} {fd fdB : FuncData} {k : Nat} (F : Fun K "__init__" "NoEnd.__init__" sI_NoEnd f fd) (T : OexG K C) (hw : PySem.W.findIn K (.ref C) "word" = some none) (n_pad : PySem.W.findIn K (.ref C) "pad" = some none)
    (B : CFn K CB "__init__" fB) (GB : FnOk P w K mg base CX0 k fB fdB ["self", "word"] (spBase K)) (bB : Binds K fdB ["self", "word"] []) (mB : mg "TearError" = some (.ref CB)) :
    FnOk P w K mg base CX0 (k + 1) f fd ["self", "pad"] (spMade C 1 (fun ws => [("pad", ws.getD 0 .non), ("word", .str "NoEnd")])) := by
  refine F.ok scI_NoEnd (fun vs H Q E h => ?_) (fun cdv A outer s H vs Q E hr h => ?_)
  · obtain ⟨a, ws, rfl, hl, _⟩ := h
    rw [List.length_cons, hl]
    rfl
  · obtain ⟨a, ws, rfl, hl, ha, q⟩ := h
    obtain ⟨y0, rfl⟩ := ws_1 hl
    refine ⟨_, pss_cons (ps_expr (pe_cfn B GB hr bB .nil pass0 (by rfl) mB (pa_cons (pv 0) (pa_cons pe_str pa_nil)))) (pss_one (ps_gst (pv 0) (pv 1) rfl)), ?_⟩
    refine ⟨.ref a, rfl, a, C, _, rfl, T, hw, ha, fun dx h1 h2 => ?_⟩
    have nn : a ≠ dx := fun z => h2 z.symm
    refine ⟨y0, rfl, .ref a, rfl, a, C, rfl, T, n_pad, .inr ⟨dx, _, by rw [upd_same], by rw [upd_ne h2, upd_same], by simp, ?_⟩⟩
    refine q dx _ h1 h2 (fun b b1 b2 => ?_) ?_ ?_
    · rw [upd_ne b2, upd_ne b1, upd_ne b2]
    · rw [upd_ne nn, upd_same]
    · rw [upd_same]
      rfl
abbrev sI_NotStanding : Stmt := inClass (topS 15) 0
theorem scI_NotStanding : FnScope ["self", "figure"] ["self", "figure"] (defScope sI_NotStanding) := ⟨rfl, rfl, rfl, by decide +kernel, rfl, by decide +kernel, by decide +kernel⟩
theorem okI_NotStanding {P : Program} {w : World} {K : PySem.W.Frag} {mg : Str → Option Value} {base : Heap} {f C CB fB : Addr} {fd fdB : FuncData} {k : Nat} (F : Fun K "__init__" "NotStanding.__init__" sI_NotStanding f fd) (T : OexG K C) (hw : PySem.W.findIn K (.ref C) "word" = some none) (n_figure : PySem.W.findIn K (.ref C) "figure" = some none)
    (B : CFn K CB "__init__" fB) (GB : FnOk P w K mg base CX0 k fB fdB ["self", "word"] (spBase K)) (bB : Binds K fdB ["self", "word"] []) (mB : mg "TearError" = some (.ref CB)) :
    FnOk P w K mg base CX0 (k + 1) f fd ["self", "figure"] (spMade C 1 (fun ws => [("figure", ws.getD 0 .non), ("word", .str "NotStanding")])) := by
  refine F.ok scI_NotStanding (fun vs H Q E h => ?_) (fun cdv A outer s H vs Q E hr h => ?_)
  · obtain ⟨a, ws, rfl, hl, _⟩ := h
    rw [List.length_cons, hl]
    rfl
  · obtain ⟨a, ws, rfl, hl, ha, q⟩ := h
    obtain ⟨y0, rfl⟩ := ws_1 hl
    refine ⟨_, pss_cons (ps_expr (pe_cfn B GB hr bB .nil pass0 (by rfl) mB (pa_cons (pv 0) (pa_cons pe_str pa_nil)))) (pss_one (ps_gst (pv 0) (pv 1) rfl)), ?_⟩
    refine ⟨.ref a, rfl, a, C, _, rfl, T, hw, ha, fun dx h1 h2 => ?_⟩
    have nn : a ≠ dx := fun z => h2 z.symm
    refine ⟨y0, rfl, .ref a, rfl, a, C, rfl, T, n_figure, .inr ⟨dx, _, by rw [upd_same], by rw [upd_ne h2, upd_same], by simp, ?_⟩⟩
    refine q dx _ h1 h2 (fun b b1 b2 => ?_) ?_ ?_
    · rw [upd_ne b2, upd_ne b1, upd_ne b2]
    · rw [upd_ne nn, upd_same]
    · rw [upd_same]
      rfl
abbrev sI_NeverClear : Stmt := inClass (topS 16) 0
theorem scI_NeverClear : FnScope ["self", "pad"] ["self", "pad"] (defScope sI_NeverClear) := ⟨rfl, rfl, rfl, by decide +kernel, rfl, by decide +kernel, by decide +kernel⟩
theorem okI_NeverClear {P : Program} {w : World} {K : PySem.W.Frag} {mg : Str → Option Value} {base : Heap} {f C CB fB : Addr} {fd fdB : FuncData} {k : Nat} (F : Fun K "__init__" "NeverClear.__init__" sI_NeverClear f fd) (T : OexG K C) (hw : PySem.W.findIn K (.ref C) "word" = some none) (n_pad : PySem.W.findIn K (.ref C) "pad" = some none)
    (B : CFn K CB "__init__" fB) (GB : FnOk P w K mg base CX0 k fB fdB ["self", "word"] (spBase K)) (bB : Binds K fdB ["self", "word"] []) (mB : mg "TearError" = some (.ref CB)) :
    FnOk P w K mg base CX0 (k + 1) f fd ["self", "pad"] (spMade C 1 (fun ws => [("pad", ws.getD 0 .non), ("word", .str "NeverClear")])) := by
  refine F.ok scI_NeverClear (fun vs H Q E h => ?_) (fun cdv A outer s H vs Q E hr h => ?_)
  · obtain ⟨a, ws, rfl, hl, _⟩ := h
    rw [List.length_cons, hl]
    rfl
  · obtain ⟨a, ws, rfl, hl, ha, q⟩ := h
    obtain ⟨y0, rfl⟩ := ws_1 hl
    refine ⟨_, pss_cons (ps_expr (pe_cfn B GB hr bB .nil pass0 (by rfl) mB (pa_cons (pv 0) (pa_cons pe_str pa_nil)))) (pss_one (ps_gst (pv 0) (pv 1) rfl)), ?_⟩
    refine ⟨.ref a, rfl, a, C, _, rfl, T, hw, ha, fun dx h1 h2 => ?_⟩
    have nn : a ≠ dx := fun z => h2 z.symm
    refine ⟨y0, rfl, .ref a, rfl, a, C, rfl, T, n_pad, .inr ⟨dx, _, by rw [upd_same], by rw [upd_ne h2, upd_same], by simp, ?_⟩⟩
    refine q dx _ h1 h2 (fun b b1 b2 => ?_) ?_ ?_
    · rw [upd_ne b2, upd_ne b1, upd_ne b2]
    · rw [upd_ne nn, upd_same]
    · rw [upd_same]
      rfl
abbrev sI_BadDeed : Stmt := inClass (topS 17) 0
theorem scI_BadDeed : FnScope ["self"] ["self"] (defScope sI_BadDeed) := ⟨rfl, rfl, rfl, by decide +kernel, rfl, by decide +kernel, by decide +kernel⟩
theorem okI_BadDeed {P : Program} {w : World} {K : PySem.W.Frag} {mg : Str → Option Value} {base : Heap} {f C CB fB : Addr} {fd fdB : FuncData} {k : Nat} (F : Fun K "__init__" "BadDeed.__init__" sI_BadDeed f fd) (T : OexG K C) (hw : PySem.W.findIn K (.ref C) "word" = some none)
    (B : CFn K CB "__init__" fB) (GB : FnOk P w K mg base CX0 k fB fdB ["self", "word"] (spBase K)) (bB : Binds K fdB ["self", "word"] []) (mB : mg "TearError" = some (.ref CB)) :
    FnOk P w K mg base CX0 (k + 1) f fd ["self"] (spMade C 0 (fun ws => [("word", .str "BadDeed")])) := by
  refine F.ok scI_BadDeed (fun vs H Q E h => ?_) (fun cdv A outer s H vs Q E hr h => ?_)
  · obtain ⟨a, ws, rfl, hl, _⟩ := h
    rw [List.length_cons, hl]
    rfl
  · obtain ⟨a, ws, rfl, hl, ha, q⟩ := h
    obtain rfl := ws_0 hl
    refine ⟨_, pss_one (ps_expr (pe_cfn B GB hr bB .nil pass0 (by rfl) mB (pa_cons (pv 0) (pa_cons pe_str pa_nil)))), ?_⟩
    refine ⟨.ref a, rfl, a, C, _, rfl, T, hw, ha, fun dx h1 h2 => ?_⟩
    have nn : a ≠ dx := fun z => h2 z.symm
    refine q dx _ h1 h2 (fun b b1 b2 => ?_) upd_same ?_
    · rw [upd_ne b1, upd_ne b2]
    · rw [upd_ne h2, upd_same]
abbrev sI_BadNumber : Stmt := inClass (topS 18) 0
theorem scI_BadNumber : FnScope ["self", "number"] ["self", "number"] (defScope sI_BadNumber) := ⟨rfl, rfl, rfl, by decide +kernel, rfl, by decide +kernel, by decide +kernel⟩
theorem okI_BadNumber {P : Program} {w : World} {K : PySem.W.Frag} {mg : Str → Option Value} {base : Heap} {f C CB fB : Addr} {fd fdB : FuncData} {k : Nat} (F : Fun K "__init__" "BadNumber.__init__" sI_BadNumber f fd) (T : OexG K C) (hw : PySem.W.findIn K (.ref C) "word" = some none) (n_number : PySem.W.findIn K (.ref C) "number" = some none)
    (B : CFn K CB "__init__" fB) (GB : FnOk P w K mg base CX0 k fB fdB ["self", "word"] (spBase K)) (bB : Binds K fdB ["self", "word"] []) (mB : mg "TearError" = some (.ref CB)) :
    FnOk P w K mg base CX0 (k + 1) f fd ["self", "number"] (spMade C 1 (fun ws => [("number", ws.getD 0 .non), ("word", .str "BadNumber")])) := by
  refine F.ok scI_BadNumber (fun vs H Q E h => ?_) (fun cdv A outer s H vs Q E hr h => ?_)
  · obtain ⟨a, ws, rfl, hl, _⟩ := h
    rw [List.length_cons, hl]
    rfl
  · obtain ⟨a, ws, rfl, hl, ha, q⟩ := h
    obtain ⟨y0, rfl⟩ := ws_1 hl
    refine ⟨_, pss_cons (ps_expr (pe_cfn B GB hr bB .nil pass0 (by rfl) mB (pa_cons (pv 0) (pa_cons pe_str pa_nil)))) (pss_one (ps_gst (pv 0) (pv 1) rfl)), ?_⟩
    refine ⟨.ref a, rfl, a, C, _, rfl, T, hw, ha, fun dx h1 h2 => ?_⟩
    have nn : a ≠ dx := fun z => h2 z.symm
    refine ⟨y0, rfl, .ref a, rfl, a, C, rfl, T, n_number, .inr ⟨dx, _, by rw [upd_same], by rw [upd_ne h2, upd_same], by simp, ?_⟩⟩
    refine q dx _ h1 h2 (fun b b1 b2 => ?_) ?_ ?_
    · rw [upd_ne b2, upd_ne b1, upd_ne b2]
    · rw [upd_ne nn, upd_same]
    · rw [upd_same]
      rfl
abbrev sI_NoBeginning : Stmt := inClass (topS 19) 0
theorem scI_NoBeginning : FnScope ["self"] ["self"] (defScope sI_NoBeginning) := ⟨rfl, rfl, rfl, by decide +kernel, rfl, by decide +kernel, by decide +kernel⟩
theorem okI_NoBeginning {P : Program} {w : World} {K : PySem.W.Frag} {mg : Str → Option Value} {base : Heap} {f C CB fB : Addr} {fd fdB : FuncData} {k : Nat} (F : Fun K "__init__" "NoBeginning.__init__" sI_NoBeginning f fd) (T : OexG K C) (hw : PySem.W.findIn K (.ref C) "word" = some none)
    (B : CFn K CB "__init__" fB) (GB : FnOk P w K mg base CX0 k fB fdB ["self", "word"] (spBase K)) (bB : Binds K fdB ["self", "word"] []) (mB : mg "TearError" = some (.ref CB)) :
    FnOk P w K mg base CX0 (k + 1) f fd ["self"] (spMade C 0 (fun ws => [("word", .str "NoBeginning")])) := by
  refine F.ok scI_NoBeginning (fun vs H Q E h => ?_) (fun cdv A outer s H vs Q E hr h => ?_)
  · obtain ⟨a, ws, rfl, hl, _⟩ := h
    rw [List.length_cons, hl]
    rfl
  · obtain ⟨a, ws, rfl, hl, ha, q⟩ := h
    obtain rfl := ws_0 hl
    refine ⟨_, pss_one (ps_expr (pe_cfn B GB hr bB .nil pass0 (by rfl) mB (pa_cons (pv 0) (pa_cons pe_str pa_nil)))), ?_⟩
    refine ⟨.ref a, rfl, a, C, _, rfl, T, hw, ha, fun dx h1 h2 => ?_⟩
    have nn : a ≠ dx := fun z => h2 z.symm
    refine q dx _ h1 h2 (fun b b1 b2 => ?_) upd_same ?_
    · rw [upd_ne b1, upd_ne b2]
    · rw [upd_ne h2, upd_same]
abbrev sI_Barred : Stmt := inClass (topS 20) 0
theorem scI_Barred : FnScope ["self", "pad"] ["self", "pad"] (defScope sI_Barred) := ⟨rfl, rfl, rfl, by decide +kernel, rfl, by decide +kernel, by decide +kernel⟩
theorem okI_Barred {P : Program} {w : World} {K : PySem.W.Frag} {mg : Str → Option Value} {base : Heap} {f C CB fB : Addr} {fd fdB : FuncData} {k : Nat} (F : Fun K "__init__" "Barred.__init__" sI_Barred f fd) (T : OexG K C) (hw : PySem.W.findIn K (.ref C) "word" = some none) (n_pad : PySem.W.findIn K (.ref C) "pad" = some none)
    (B : CFn K CB "__init__" fB) (GB : FnOk P w K mg base CX0 k fB fdB ["self", "word"] (spBase K)) (bB : Binds K fdB ["self", "word"] []) (mB : mg "TearError" = some (.ref CB)) :
    FnOk P w K mg base CX0 (k + 1) f fd ["self", "pad"] (spMade C 1 (fun ws => [("pad", ws.getD 0 .non), ("word", .str "Barred")])) := by
  refine F.ok scI_Barred (fun vs H Q E h => ?_) (fun cdv A outer s H vs Q E hr h => ?_)
  · obtain ⟨a, ws, rfl, hl, _⟩ := h
    rw [List.length_cons, hl]
    rfl
  · obtain ⟨a, ws, rfl, hl, ha, q⟩ := h
    obtain ⟨y0, rfl⟩ := ws_1 hl
    refine ⟨_, pss_cons (ps_expr (pe_cfn B GB hr bB .nil pass0 (by rfl) mB (pa_cons (pv 0) (pa_cons pe_str pa_nil)))) (pss_one (ps_gst (pv 0) (pv 1) rfl)), ?_⟩
    refine ⟨.ref a, rfl, a, C, _, rfl, T, hw, ha, fun dx h1 h2 => ?_⟩
    have nn : a ≠ dx := fun z => h2 z.symm
    refine ⟨y0, rfl, .ref a, rfl, a, C, rfl, T, n_pad, .inr ⟨dx, _, by rw [upd_same], by rw [upd_ne h2, upd_same], by simp, ?_⟩⟩
    refine q dx _ h1 h2 (fun b b1 b2 => ?_) ?_ ?_
    · rw [upd_ne b2, upd_ne b1, upd_ne b2]
    · rw [upd_ne nn, upd_same]
    · rw [upd_same]
      rfl
abbrev sI_BadHeights : Stmt := inClass (topS 21) 0
theorem scI_BadHeights : FnScope ["self", "at"] ["self", "at"] (defScope sI_BadHeights) := ⟨rfl, rfl, rfl, by decide +kernel, rfl, by decide +kernel, by decide +kernel⟩
theorem okI_BadHeights {P : Program} {w : World} {K : PySem.W.Frag} {mg : Str → Option Value} {base : Heap} {f C CB fB : Addr} {fd fdB : FuncData} {k : Nat} (F : Fun K "__init__" "BadHeights.__init__" sI_BadHeights f fd) (T : OexG K C) (hw : PySem.W.findIn K (.ref C) "word" = some none) (n_at : PySem.W.findIn K (.ref C) "at" = some none)
    (B : CFn K CB "__init__" fB) (GB : FnOk P w K mg base CX0 k fB fdB ["self", "word"] (spBase K)) (bB : Binds K fdB ["self", "word"] []) (mB : mg "TearError" = some (.ref CB)) :
    FnOk P w K mg base CX0 (k + 1) f fd ["self", "at"] (spMade C 1 (fun ws => [("at", ws.getD 0 .non), ("word", .str "BadHeights")])) := by
  refine F.ok scI_BadHeights (fun vs H Q E h => ?_) (fun cdv A outer s H vs Q E hr h => ?_)
  · obtain ⟨a, ws, rfl, hl, _⟩ := h
    rw [List.length_cons, hl]
    rfl
  · obtain ⟨a, ws, rfl, hl, ha, q⟩ := h
    obtain ⟨y0, rfl⟩ := ws_1 hl
    refine ⟨_, pss_cons (ps_expr (pe_cfn B GB hr bB .nil pass0 (by rfl) mB (pa_cons (pv 0) (pa_cons pe_str pa_nil)))) (pss_one (ps_gst (pv 0) (pv 1) rfl)), ?_⟩
    refine ⟨.ref a, rfl, a, C, _, rfl, T, hw, ha, fun dx h1 h2 => ?_⟩
    have nn : a ≠ dx := fun z => h2 z.symm
    refine ⟨y0, rfl, .ref a, rfl, a, C, rfl, T, n_at, .inr ⟨dx, _, by rw [upd_same], by rw [upd_ne h2, upd_same], by simp, ?_⟩⟩
    refine q dx _ h1 h2 (fun b b1 b2 => ?_) ?_ ?_
    · rw [upd_ne b2, upd_ne b1, upd_ne b2]
    · rw [upd_ne nn, upd_same]
    · rw [upd_same]
      rfl
abbrev sI_BadWeights : Stmt := inClass (topS 22) 0
theorem scI_BadWeights : FnScope ["self", "at"] ["self", "at"] (defScope sI_BadWeights) := ⟨rfl, rfl, rfl, by decide +kernel, rfl, by decide +kernel, by decide +kernel⟩
theorem okI_BadWeights {P : Program} {w : World} {K : PySem.W.Frag} {mg : Str → Option Value} {base : Heap} {f C CB fB : Addr} {fd fdB : FuncData} {k : Nat} (F : Fun K "__init__" "BadWeights.__init__" sI_BadWeights f fd) (T : OexG K C) (hw : PySem.W.findIn K (.ref C) "word" = some none) (n_at : PySem.W.findIn K (.ref C) "at" = some none)
    (B : CFn K CB "__init__" fB) (GB : FnOk P w K mg base CX0 k fB fdB ["self", "word"] (spBase K)) (bB : Binds K fdB ["self", "word"] []) (mB : mg "TearError" = some (.ref CB)) :
    FnOk P w K mg base CX0 (k + 1) f fd ["self", "at"] (spMade C 1 (fun ws => [("at", ws.getD 0 .non), ("word", .str "BadWeights")])) := by
  refine F.ok scI_BadWeights (fun vs H Q E h => ?_) (fun cdv A outer s H vs Q E hr h => ?_)
  · obtain ⟨a, ws, rfl, hl, _⟩ := h
    rw [List.length_cons, hl]
    rfl
  · obtain ⟨a, ws, rfl, hl, ha, q⟩ := h
    obtain ⟨y0, rfl⟩ := ws_1 hl
    refine ⟨_, pss_cons (ps_expr (pe_cfn B GB hr bB .nil pass0 (by rfl) mB (pa_cons (pv 0) (pa_cons pe_str pa_nil)))) (pss_one (ps_gst (pv 0) (pv 1) rfl)), ?_⟩
    refine ⟨.ref a, rfl, a, C, _, rfl, T, hw, ha, fun dx h1 h2 => ?_⟩
    have nn : a ≠ dx := fun z => h2 z.symm
    refine ⟨y0, rfl, .ref a, rfl, a, C, rfl, T, n_at, .inr ⟨dx, _, by rw [upd_same], by rw [upd_ne h2, upd_same], by simp, ?_⟩⟩
    refine q dx _ h1 h2 (fun b b1 b2 => ?_) ?_ ?_
    · rw [upd_ne b2, upd_ne b1, upd_ne b2]
    · rw [upd_ne nn, upd_same]
    · rw [upd_same]
      rfl
abbrev sI_NoMean : Stmt := inClass (topS 23) 0
theorem scI_NoMean : FnScope ["self"] ["self"] (defScope sI_NoMean) := ⟨rfl, rfl, rfl, by decide +kernel, rfl, by decide +kernel, by decide +kernel⟩
theorem okI_NoMean {P : Program} {w : World} {K : PySem.W.Frag} {mg : Str → Option Value} {base : Heap} {f C CB fB : Addr} {fd fdB : FuncData} {k : Nat} (F : Fun K "__init__" "NoMean.__init__" sI_NoMean f fd) (T : OexG K C) (hw : PySem.W.findIn K (.ref C) "word" = some none)
    (B : CFn K CB "__init__" fB) (GB : FnOk P w K mg base CX0 k fB fdB ["self", "word"] (spBase K)) (bB : Binds K fdB ["self", "word"] []) (mB : mg "TearError" = some (.ref CB)) :
    FnOk P w K mg base CX0 (k + 1) f fd ["self"] (spMade C 0 (fun ws => [("word", .str "NoMean")])) := by
  refine F.ok scI_NoMean (fun vs H Q E h => ?_) (fun cdv A outer s H vs Q E hr h => ?_)
  · obtain ⟨a, ws, rfl, hl, _⟩ := h
    rw [List.length_cons, hl]
    rfl
  · obtain ⟨a, ws, rfl, hl, ha, q⟩ := h
    obtain rfl := ws_0 hl
    refine ⟨_, pss_one (ps_expr (pe_cfn B GB hr bB .nil pass0 (by rfl) mB (pa_cons (pv 0) (pa_cons pe_str pa_nil)))), ?_⟩
    refine ⟨.ref a, rfl, a, C, _, rfl, T, hw, ha, fun dx h1 h2 => ?_⟩
    have nn : a ≠ dx := fun z => h2 z.symm
    refine q dx _ h1 h2 (fun b b1 b2 => ?_) upd_same ?_
    · rw [upd_ne b1, upd_ne b2]
    · rw [upd_ne h2, upd_same]
abbrev sI_BadText : Stmt := inClass (topS 24) 0
theorem scI_BadText : FnScope ["self", "at"] ["self", "at"] (defScope sI_BadText) := ⟨rfl, rfl, rfl, by decide +kernel, rfl, by decide +kernel, by decide +kernel⟩
theorem okI_BadText {P : Program} {w : World} {K : PySem.W.Frag} {mg : Str → Option Value} {base : Heap} {f C CB fB : Addr} {fd fdB : FuncData} {k : Nat} (F : Fun K "__init__" "BadText.__init__" sI_BadText f fd) (T : OexG K C) (hw : PySem.W.findIn K (.ref C) "word" = some none) (n_at : PySem.W.findIn K (.ref C) "at" = some none)
    (B : CFn K CB "__init__" fB) (GB : FnOk P w K mg base CX0 k fB fdB ["self", "word"] (spBase K)) (bB : Binds K fdB ["self", "word"] []) (mB : mg "TearError" = some (.ref CB)) :
    FnOk P w K mg base CX0 (k + 1) f fd ["self", "at"] (spMade C 1 (fun ws => [("at", ws.getD 0 .non), ("word", .str "BadText")])) := by
  refine F.ok scI_BadText (fun vs H Q E h => ?_) (fun cdv A outer s H vs Q E hr h => ?_)
  · obtain ⟨a, ws, rfl, hl, _⟩ := h
    rw [List.length_cons, hl]
    rfl
  · obtain ⟨a, ws, rfl, hl, ha, q⟩ := h
    obtain ⟨y0, rfl⟩ := ws_1 hl
    refine ⟨_, pss_cons (ps_expr (pe_cfn B GB hr bB .nil pass0 (by rfl) mB (pa_cons (pv 0) (pa_cons pe_str pa_nil)))) (pss_one (ps_gst (pv 0) (pv 1) rfl)), ?_⟩
    refine ⟨.ref a, rfl, a, C, _, rfl, T, hw, ha, fun dx h1 h2 => ?_⟩
    have nn : a ≠ dx := fun z => h2 z.symm
    refine ⟨y0, rfl, .ref a, rfl, a, C, rfl, T, n_at, .inr ⟨dx, _, by rw [upd_same], by rw [upd_ne h2, upd_same], by simp, ?_⟩⟩
    refine q dx _ h1 h2 (fun b b1 b2 => ?_) ?_ ?_
    · rw [upd_ne b2, upd_ne b1, upd_ne b2]
    · rw [upd_ne nn, upd_same]
    · rw [upd_same]
      rfl
abbrev sI_NoPad : Stmt := inClass (topS 26) 0
theorem scI_NoPad : FnScope ["self", "pad"] ["self", "pad"] (defScope sI_NoPad) := ⟨rfl, rfl, rfl, by decide +kernel, rfl, by decide +kernel, by decide +kernel⟩
theorem okI_NoPad {P : Program} {w : World} {K : PySem.W.Frag} {mg : Str → Option Value} {base : Heap} {f C CB fB : Addr} {fd fdB : FuncData} {k : Nat} (F : Fun K "__init__" "NoPad.__init__" sI_NoPad f fd) (T : OexG K C) (hw : PySem.W.findIn K (.ref C) "word" = some none) (n_pad : PySem.W.findIn K (.ref C) "pad" = some none)
    (B : CFn K CB "__init__" fB) (GB : FnOk P w K mg base CX0 k fB fdB ["self", "word"] (spBase K)) (bB : Binds K fdB ["self", "word"] []) (mB : mg "Missing" = some (.ref CB)) :
    FnOk P w K mg base CX0 (k + 1) f fd ["self", "pad"] (spMade C 1 (fun ws => [("pad", ws.getD 0 .non), ("word", .str "NoPad")])) := by
  refine F.ok scI_NoPad (fun vs H Q E h => ?_) (fun cdv A outer s H vs Q E hr h => ?_)
  · obtain ⟨a, ws, rfl, hl, _⟩ := h
    rw [List.length_cons, hl]
    rfl
  · obtain ⟨a, ws, rfl, hl, ha, q⟩ := h
    obtain ⟨y0, rfl⟩ := ws_1 hl
    refine ⟨_, pss_cons (ps_expr (pe_cfn B GB hr bB .nil pass0 (by rfl) mB (pa_cons (pv 0) (pa_cons pe_str pa_nil)))) (pss_one (ps_gst (pv 0) (pv 1) rfl)), ?_⟩
    refine ⟨.ref a, rfl, a, C, _, rfl, T, hw, ha, fun dx h1 h2 => ?_⟩
    have nn : a ≠ dx := fun z => h2 z.symm
    refine ⟨y0, rfl, .ref a, rfl, a, C, rfl, T, n_pad, .inr ⟨dx, _, by rw [upd_same], by rw [upd_ne h2, upd_same], by simp, ?_⟩⟩
    refine q dx _ h1 h2 (fun b b1 b2 => ?_) ?_ ?_
    · rw [upd_ne b2, upd_ne b1, upd_ne b2]
    · rw [upd_ne nn, upd_same]
    · rw [upd_same]
      rfl
abbrev sI_NoFigure : Stmt := inClass (topS 27) 0
theorem scI_NoFigure : FnScope ["self", "figure"] ["self", "figure"] (defScope sI_NoFigure) := ⟨rfl, rfl, rfl, by decide +kernel, rfl, by decide +kernel, by decide +kernel⟩
theorem okI_NoFigure {P : Program} {w : World} {K : PySem.W.Frag} {mg : Str → Option Value} {base : Heap} {f C CB fB : Addr} {fd fdB : FuncData} {k : Nat} (F : Fun K "__init__" "NoFigure.__init__" sI_NoFigure f fd) (T : OexG K C) (hw : PySem.W.findIn K (.ref C) "word" = some none) (n_figure : PySem.W.findIn K (.ref C) "figure" = some none)
    (B : CFn K CB "__init__" fB) (GB : FnOk P w K mg base CX0 k fB fdB ["self", "word"] (spBase K)) (bB : Binds K fdB ["self", "word"] []) (mB : mg "Missing" = some (.ref CB)) :
    FnOk P w K mg base CX0 (k + 1) f fd ["self", "figure"] (spMade C 1 (fun ws => [("figure", ws.getD 0 .non), ("word", .str "NoFigure")])) := by
  refine F.ok scI_NoFigure (fun vs H Q E h => ?_) (fun cdv A outer s H vs Q E hr h => ?_)
  · obtain ⟨a, ws, rfl, hl, _⟩ := h
    rw [List.length_cons, hl]
    rfl
  · obtain ⟨a, ws, rfl, hl, ha, q⟩ := h
    obtain ⟨y0, rfl⟩ := ws_1 hl
    refine ⟨_, pss_cons (ps_expr (pe_cfn B GB hr bB .nil pass0 (by rfl) mB (pa_cons (pv 0) (pa_cons pe_str pa_nil)))) (pss_one (ps_gst (pv 0) (pv 1) rfl)), ?_⟩
    refine ⟨.ref a, rfl, a, C, _, rfl, T, hw, ha, fun dx h1 h2 => ?_⟩
    have nn : a ≠ dx := fun z => h2 z.symm
    refine ⟨y0, rfl, .ref a, rfl, a, C, rfl, T, n_figure, .inr ⟨dx, _, by rw [upd_same], by rw [upd_ne h2, upd_same], by simp, ?_⟩⟩
    refine q dx _ h1 h2 (fun b b1 b2 => ?_) ?_ ?_
    · rw [upd_ne b2, upd_ne b1, upd_ne b2]
    · rw [upd_ne nn, upd_same]
    · rw [upd_same]
      rfl
abbrev sI_NoNote : Stmt := inClass (topS 28) 0
theorem scI_NoNote : FnScope ["self", "depth"] ["self", "depth"] (defScope sI_NoNote) := ⟨rfl, rfl, rfl, by decide +kernel, rfl, by decide +kernel, by decide +kernel⟩
theorem okI_NoNote {P : Program} {w : World} {K : PySem.W.Frag} {mg : Str → Option Value} {base : Heap} {f C CB fB : Addr} {fd fdB : FuncData} {k : Nat} (F : Fun K "__init__" "NoNote.__init__" sI_NoNote f fd) (T : OexG K C) (hw : PySem.W.findIn K (.ref C) "word" = some none) (n_depth : PySem.W.findIn K (.ref C) "depth" = some none)
    (B : CFn K CB "__init__" fB) (GB : FnOk P w K mg base CX0 k fB fdB ["self", "word"] (spBase K)) (bB : Binds K fdB ["self", "word"] []) (mB : mg "Missing" = some (.ref CB)) :
    FnOk P w K mg base CX0 (k + 1) f fd ["self", "depth"] (spMade C 1 (fun ws => [("depth", ws.getD 0 .non), ("word", .str "NoNote")])) := by
  refine F.ok scI_NoNote (fun vs H Q E h => ?_) (fun cdv A outer s H vs Q E hr h => ?_)
  · obtain ⟨a, ws, rfl, hl, _⟩ := h
    rw [List.length_cons, hl]
    rfl
  · obtain ⟨a, ws, rfl, hl, ha, q⟩ := h
    obtain ⟨y0, rfl⟩ := ws_1 hl
    refine ⟨_, pss_cons (ps_expr (pe_cfn B GB hr bB .nil pass0 (by rfl) mB (pa_cons (pv 0) (pa_cons pe_str pa_nil)))) (pss_one (ps_gst (pv 0) (pv 1) rfl)), ?_⟩
    refine ⟨.ref a, rfl, a, C, _, rfl, T, hw, ha, fun dx h1 h2 => ?_⟩
    have nn : a ≠ dx := fun z => h2 z.symm
    refine ⟨y0, rfl, .ref a, rfl, a, C, rfl, T, n_depth, .inr ⟨dx, _, by rw [upd_same], by rw [upd_ne h2, upd_same], by simp, ?_⟩⟩
    refine q dx _ h1 h2 (fun b b1 b2 => ?_) ?_ ?_
    · rw [upd_ne b2, upd_ne b1, upd_ne b2]
    · rw [upd_ne nn, upd_same]
    · rw [upd_same]
      rfl
abbrev sI_NothingBack : Stmt := inClass (topS 30) 0
theorem scI_NothingBack : FnScope ["self"] ["self"] (defScope sI_NothingBack) := ⟨rfl, rfl, rfl, by decide +kernel, rfl, by decide +kernel, by decide +kernel⟩
theorem okI_NothingBack {P : Program} {w : World} {K : PySem.W.Frag} {mg : Str → Option Value} {base : Heap} {f C CB fB : Addr} {fd fdB : FuncData} {k : Nat} (F : Fun K "__init__" "NothingBack.__init__" sI_NothingBack f fd) (T : OexG K C) (hw : PySem.W.findIn K (.ref C) "word" = some none)
    (B : CFn K CB "__init__" fB) (GB : FnOk P w K mg base CX0 k fB fdB ["self", "word"] (spBase K)) (bB : Binds K fdB ["self", "word"] []) (mB : mg "Stuck" = some (.ref CB)) :
    FnOk P w K mg base CX0 (k + 1) f fd ["self"] (spMade C 0 (fun ws => [("word", .str "NothingBack")])) := by
  refine F.ok scI_NothingBack (fun vs H Q E h => ?_) (fun cdv A outer s H vs Q E hr h => ?_)
  · obtain ⟨a, ws, rfl, hl, _⟩ := h
    rw [List.length_cons, hl]
    rfl
  · obtain ⟨a, ws, rfl, hl, ha, q⟩ := h
    obtain rfl := ws_0 hl
    refine ⟨_, pss_one (ps_expr (pe_cfn B GB hr bB .nil pass0 (by rfl) mB (pa_cons (pv 0) (pa_cons pe_str pa_nil)))), ?_⟩
    refine ⟨.ref a, rfl, a, C, _, rfl, T, hw, ha, fun dx h1 h2 => ?_⟩
    have nn : a ≠ dx := fun z => h2 z.symm
    refine q dx _ h1 h2 (fun b b1 b2 => ?_) upd_same ?_
    · rw [upd_ne b1, upd_ne b2]
    · rw [upd_ne h2, upd_same]
abbrev sI_NothingAgain : Stmt := inClass (topS 31) 0
theorem scI_NothingAgain : FnScope ["self"] ["self"] (defScope sI_NothingAgain) := ⟨rfl, rfl, rfl, by decide +kernel, rfl, by decide +kernel, by decide +kernel⟩
theorem okI_NothingAgain {P : Program} {w : World} {K : PySem.W.Frag} {mg : Str → Option Value} {base : Heap} {f C CB fB : Addr} {fd fdB : FuncData} {k : Nat} (F : Fun K "__init__" "NothingAgain.__init__" sI_NothingAgain f fd) (T : OexG K C) (hw : PySem.W.findIn K (.ref C) "word" = some none)
    (B : CFn K CB "__init__" fB) (GB : FnOk P w K mg base CX0 k fB fdB ["self", "word"] (spBase K)) (bB : Binds K fdB ["self", "word"] []) (mB : mg "Stuck" = some (.ref CB)) :
    FnOk P w K mg base CX0 (k + 1) f fd ["self"] (spMade C 0 (fun ws => [("word", .str "NothingAgain")])) := by
  refine F.ok scI_NothingAgain (fun vs H Q E h => ?_) (fun cdv A outer s H vs Q E hr h => ?_)
  · obtain ⟨a, ws, rfl, hl, _⟩ := h
    rw [List.length_cons, hl]
    rfl
  · obtain ⟨a, ws, rfl, hl, ha, q⟩ := h
    obtain rfl := ws_0 hl
    refine ⟨_, pss_one (ps_expr (pe_cfn B GB hr bB .nil pass0 (by rfl) mB (pa_cons (pv 0) (pa_cons pe_str pa_nil)))), ?_⟩
    refine ⟨.ref a, rfl, a, C, _, rfl, T, hw, ha, fun dx h1 h2 => ?_⟩
    have nn : a ≠ dx := fun z => h2 z.symm
    refine q dx _ h1 h2 (fun b b1 b2 => ?_) upd_same ?_
    · rw [upd_ne b1, upd_ne b2]
    · rw [upd_ne h2, upd_same]
/-! ### _law_pull -/
abbrev sPull : Stmt := topS 34
theorem scPull : FnScope ["_law_bag_here", "_law_size", "_law_got", "_law_cell"] ["_law_bag_here", "_law_size"] (defScope sPull) := ⟨rfl, rfl, rfl, by decide +kernel, rfl, by decide +kernel, by decide +kernel⟩
def spPull : Sp := fun vs H Q _ => ∃ (b c : Addr) (size : Int), vs = [.ref b, .int size] ∧ Bag H b c ∧ 0 < size ∧ size.natAbs < 2 ^ 200 ∧
  ∀ H' r, Off b H H' → Bag H' b c → 0 ≤ r → r < size → Q (.int r) H'
section
variable {P : Program} {w : World} {K : PySem.W.Frag} {mg : Str → Option Value} {base : Heap}
theorem ok_pull {f : Addr} {fd : FuncData} {k : Nat} (F : Fun K "_law_pull" "_law_pull" sPull f fd) (ml : mg "len" = none) : FnOk P w K mg base CX0 (k + 1) f fd ["_law_bag_here", "_law_size"] spPull := by
  refine F.ok scPull (fun vs H Q E h => ?_) (fun cdv A outer s H vs Q E hr h => ?_)
  · obtain ⟨b, c, size, rfl, _⟩ := h
    rfl
  · obtain ⟨b, c, size, rfl, ⟨cells, at', rest, seed, hb, hc, ha, hr0, hs0, hs1, hcb⟩, hz, hzb, q⟩ := h
    refine ⟨_, pss_cons (ps_if (pt_cmpR op_ge (pe_ix ix_list (pv 0) pe_int (fun _ _ => rfl)) (pv 1) (nomark _))
        (pss_cons (ps_set (i := 2) scPull.nd rfl (.inl rfl) (pe_op op_mod (pe_ix ix_list (pv 0) pe_int (fun _ _ => rfl)) (pv 1)))
        (pss_cons (ps_asg (pe_op op_fdivW (pe_ix ix_list (pv 0) pe_int (fun _ _ => rfl)) (pv 1)) (pg_sub (pv 0) pe_int set_list))
        (pss_one (ps_ret (pv 2))))) pss_nil)
      (pss_cons (ps_set (i := 3) scPull.nd rfl (.inl rfl) pe_int)
      (pss_cons (ps_if (pt_cmpR op_lt (pe_ix ix_list (pv 0) pe_int (fun _ _ => rfl)) (pe_callB call_len_seq (by rfl) ml PySem.boot_len (pa_cons (pe_ix ix_list (pv 0) pe_int (fun _ _ => rfl)) pa_nil)) (nomark _))
        (pss_one (ps_set (i := 3) scPull.nd rfl (.inl rfl) (pe_ix ix_list (pe_ix ix_list (pv 0) pe_int (fun _ _ => rfl)) (pe_ix ix_list (pv 0) pe_int (fun _ _ => rfl)) (fun _ _ => rfl)))) pss_nil)
      (pss_cons (ps_asg (pe_op op_add (pe_ix ix_list (pv 0) pe_int (fun _ _ => rfl)) pe_int) (pg_sub (pv 0) pe_int set_list))
      (pss_cons (ps_if (pt_cmpR op_ge (pv 3) (pe_op op_pow pe_int pe_int) (nomark _))
        (pss_cons (ps_asg (pe_op op_fdivW (pv 3) (pv 1)) (pg_sub (pv 0) pe_int set_list))
        (pss_one (ps_ret (pe_op op_mod (pv 3) (pv 1))))) pss_nil)
      (pss_cons (ps_asg (pe_op op_mod (pe_op op_add (pe_op op_add (pe_op op_add (pe_op op_pow (pe_ix ix_list (pv 0) pe_int (fun _ _ => rfl)) pe_int) (pe_op op_mul pe_int (pe_ix ix_list (pv 0) pe_int (fun _ _ => rfl)))) (pe_op op_mod (pv 3) pe_int)) pe_int) pe_int) (pg_sub (pv 0) pe_int set_list))
      (pss_one (ps_ret (pe_op op_mod (pe_op op_add (pe_op op_fdivW (pe_ix ix_list (pv 0) pe_int (fun _ _ => rfl)) pe_int) (pv 3)) (pv 1))))))))), ?_⟩
    have hd : CDivW rest size := wide_div (b := 200) hz hzb (by decide) (by decide)
    -- if bag[2] >= size
    refine ⟨.ref b, rfl, b, _, 2, .int rest, rfl, rfl, .inl (.inl hb), atI_nat (j := 2) rfl, .int size, rfl, _, _, rfl, rfl, _, rfl, ite2 (fun e => ?_) (fun e => ?_)⟩
    · refine ⟨.ref b, rfl, b, _, 2, .int rest, rfl, rfl, .inl (.inl hb), atI_nat (j := 2) rfl, .int size, rfl, _, _, rfl, rfl, hz, ?_⟩
      refine ⟨.ref b, rfl, b, _, 2, .int rest, rfl, rfl, .inl (.inl hb), atI_nat (j := 2) rfl, .int size, rfl, _, _, rfl, rfl, hd, ?_⟩
      refine ⟨.ref b, rfl, b, _, 2, 2, rfl, rfl, hb, rfl, ?_⟩
      refine ⟨.int (rest % size), rfl, q _ _ Off.upd ⟨cells, at', rest / size, seed, upd_same, ?_, ha, Int.ediv_nonneg hr0 (by omega), hs0, hs1, hcb⟩ (Int.emod_nonneg _ (by omega)) (Int.emod_lt_of_pos _ hz)⟩
      rw [upd_ne hcb]
      exact hc
    · -- cell = 0; if bag[1] < len(bag[0])
      obtain ⟨j, rfl⟩ := Int.eq_ofNat_of_zero_le ha
      refine ⟨.ref b, rfl, b, _, 1, .int (j : Nat), rfl, rfl, .inl (.inl hb), atI_nat (j := 1) rfl, .ref b, rfl, b, _, 0, .ref c, rfl, rfl, .inl (.inl hb), atI_nat (j := 0) rfl, c, _, rfl, .inl (.inl (.inl hc)), _, _, rfl, rfl, _, rfl, ite2 (fun e2 => ?_) (fun e2 => ?_)⟩
      · have hl := of_decide_eq_true e2
        rw [List.length_map] at hl
        have hj : j < cells.length := by omega
        refine ⟨.ref b, rfl, b, _, 0, .ref c, rfl, rfl, .inl (.inl hb), atI_nat (j := 0) rfl, .ref b, rfl, b, _, 1, .int (j : Nat), rfl, rfl, .inl (.inl hb), atI_nat (j := 1) rfl, c, _, _, .int cells[j], rfl, rfl, .inl (.inl hc), atI_nat (j := j) (by rw [List.getElem?_map, List.getElem?_eq_getElem hj]; rfl), ?_⟩
        obtain ⟨cell, hcell⟩ : ∃ cell : Int, cell = cells[j] := ⟨_, rfl⟩
        rw [← hcell]
        -- bag[1] = bag[1] + 1
        refine ⟨.ref b, rfl, b, _, 1, .int (j : Nat), rfl, rfl, .inl (.inl hb), atI_nat (j := 1) rfl, _, _, rfl, rfl, ?_⟩
        refine ⟨.ref b, rfl, b, _, 1, 1, rfl, rfl, hb, rfl, ?_⟩
        have hb1 : (upd H b (.lst [.ref c, .int ((j : Int) + 1), .int rest, .int seed])) b = some (.lst [.ref c, .int ((j : Int) + 1), .int rest, .int seed]) := upd_same
        have hc1 : (upd H b (.lst [.ref c, .int ((j : Int) + 1), .int rest, .int seed])) c = some (.lst (cells.map V.int)) := by
          rw [upd_ne hcb]
          exact hc
        -- if cell >= 10 ** 18
        refine ⟨.int cell, rfl, 10, 18, rfl, rfl, ⟨by decide, by decide, by decide⟩, _, _, rfl, rfl, _, rfl, ite2 (fun e3 => ?_) (fun e3 => ?_)⟩
        · have h18 : (10 : Int) ^ (18 : Int).toNat ≤ cell := of_decide_eq_true e3
          have h0 : (0 : Int) ≤ 10 ^ (18 : Int).toNat := by decide
          refine ⟨.int cell, rfl, .int size, rfl, _, _, rfl, rfl, wide_div (b := 200) hz hzb (by decide) (by decide), ?_⟩
          refine ⟨.ref b, rfl, b, _, 2, 2, rfl, rfl, hb1, rfl, ?_⟩
          refine ⟨.int cell, rfl, .int size, rfl, _, _, rfl, rfl, hz, ?_⟩
          refine q _ _ (Off.upd.trans Off.upd) ⟨cells, (j : Int) + 1, cell / size, seed, upd_same, ?_, by omega, Int.ediv_nonneg (by omega) (by omega), hs0, hs1, hcb⟩ (Int.emod_nonneg _ (by omega)) (Int.emod_lt_of_pos _ hz)
          rw [upd_ne hcb]
          exact hc1
        · -- bag[3] = (bag[3] ** 5 + 69069 * bag[1] + cell % 1000003 + 7) % 2147483629
          have hp : CPow seed 5 := ⟨by decide, by decide, by omega⟩
          refine ⟨.ref b, rfl, b, _, 3, .int seed, rfl, rfl, .inl (.inl hb1), atI_nat (j := 3) rfl, _, _, rfl, rfl, hp, ?_⟩
          refine ⟨.ref b, rfl, b, _, 1, .int ((j : Int) + 1), rfl, rfl, .inl (.inl hb1), atI_nat (j := 1) rfl, _, _, rfl, rfl, .inl ⟨by decide, by decide⟩, _, _, rfl, rfl, ?_⟩
          refine ⟨.int cell, rfl, _, _, rfl, rfl, (show (0 : Int) < 1000003 by decide), _, _, rfl, rfl, _, _, rfl, rfl, _, _, rfl, rfl, (show (0 : Int) < 2147483629 by decide), ?_⟩
          refine ⟨.ref b, rfl, b, _, 3, 3, rfl, rfl, hb1, rfl, ?_⟩
          refine ⟨.ref b, rfl, b, _, 3, _, rfl, rfl, .inl (.inl upd_same), atI_nat (j := 3) rfl, _, _, rfl, rfl, wide_div (b := 200) (by decide) (by decide) (by decide) (by decide), .int cell, rfl, _, _, rfl, rfl, .int size, rfl, _, _, rfl, rfl, hz, ?_⟩
          refine q _ _ (Off.upd.trans Off.upd) ⟨cells, (j : Int) + 1, rest, _, upd_same, ?_, by omega, hr0, Int.emod_nonneg _ (by decide), Int.lt_trans (Int.emod_lt_of_pos _ (by decide)) (by decide), hcb⟩ (Int.emod_nonneg _ (by omega)) (Int.emod_lt_of_pos _ hz)
          rw [upd_ne hcb]
          exact hc1
      · obtain ⟨cell, hcell⟩ : ∃ cell : Int, cell = 0 := ⟨_, rfl⟩
        rw [show (V.int 0) = V.int cell by rw [hcell]]
        -- bag[1] = bag[1] + 1
        refine ⟨.ref b, rfl, b, _, 1, .int (j : Nat), rfl, rfl, .inl (.inl hb), atI_nat (j := 1) rfl, _, _, rfl, rfl, ?_⟩
        refine ⟨.ref b, rfl, b, _, 1, 1, rfl, rfl, hb, rfl, ?_⟩
        have hb1 : (upd H b (.lst [.ref c, .int ((j : Int) + 1), .int rest, .int seed])) b = some (.lst [.ref c, .int ((j : Int) + 1), .int rest, .int seed]) := upd_same
        have hc1 : (upd H b (.lst [.ref c, .int ((j : Int) + 1), .int rest, .int seed])) c = some (.lst (cells.map V.int)) := by
          rw [upd_ne hcb]
          exact hc
        -- if cell >= 10 ** 18
        refine ⟨.int cell, rfl, 10, 18, rfl, rfl, ⟨by decide, by decide, by decide⟩, _, _, rfl, rfl, _, rfl, ite2 (fun e3 => ?_) (fun e3 => ?_)⟩
        · have h18 : (10 : Int) ^ (18 : Int).toNat ≤ cell := of_decide_eq_true e3
          have h0 : (0 : Int) ≤ 10 ^ (18 : Int).toNat := by decide
          refine ⟨.int cell, rfl, .int size, rfl, _, _, rfl, rfl, wide_div (b := 200) hz hzb (by decide) (by decide), ?_⟩
          refine ⟨.ref b, rfl, b, _, 2, 2, rfl, rfl, hb1, rfl, ?_⟩
          refine ⟨.int cell, rfl, .int size, rfl, _, _, rfl, rfl, hz, ?_⟩
          refine q _ _ (Off.upd.trans Off.upd) ⟨cells, (j : Int) + 1, cell / size, seed, upd_same, ?_, by omega, Int.ediv_nonneg (by omega) (by omega), hs0, hs1, hcb⟩ (Int.emod_nonneg _ (by omega)) (Int.emod_lt_of_pos _ hz)
          rw [upd_ne hcb]
          exact hc1
        · -- bag[3] = (bag[3] ** 5 + 69069 * bag[1] + cell % 1000003 + 7) % 2147483629
          have hp : CPow seed 5 := ⟨by decide, by decide, by omega⟩
          refine ⟨.ref b, rfl, b, _, 3, .int seed, rfl, rfl, .inl (.inl hb1), atI_nat (j := 3) rfl, _, _, rfl, rfl, hp, ?_⟩
          refine ⟨.ref b, rfl, b, _, 1, .int ((j : Int) + 1), rfl, rfl, .inl (.inl hb1), atI_nat (j := 1) rfl, _, _, rfl, rfl, .inl ⟨by decide, by decide⟩, _, _, rfl, rfl, ?_⟩
          refine ⟨.int cell, rfl, _, _, rfl, rfl, (show (0 : Int) < 1000003 by decide), _, _, rfl, rfl, _, _, rfl, rfl, _, _, rfl, rfl, (show (0 : Int) < 2147483629 by decide), ?_⟩
          refine ⟨.ref b, rfl, b, _, 3, 3, rfl, rfl, hb1, rfl, ?_⟩
          refine ⟨.ref b, rfl, b, _, 3, _, rfl, rfl, .inl (.inl upd_same), atI_nat (j := 3) rfl, _, _, rfl, rfl, wide_div (b := 200) (by decide) (by decide) (by decide) (by decide), .int cell, rfl, _, _, rfl, rfl, .int size, rfl, _, _, rfl, rfl, hz, ?_⟩
          refine q _ _ (Off.upd.trans Off.upd) ⟨cells, (j : Int) + 1, rest, _, upd_same, ?_, by omega, hr0, Int.emod_nonneg _ (by decide), Int.lt_trans (Int.emod_lt_of_pos _ (by decide)) (by decide), hcb⟩ (Int.emod_nonneg _ (by omega)) (Int.emod_lt_of_pos _ hz)
          rw [upd_ne hcb]
          exact hc1
end
/-! ### _law_bag -/
abbrev sBag : Stmt := topS 33
theorem scBag : FnScope ["_law_script"] ["_law_script"] (defScope sBag) := ⟨rfl, rfl, rfl, by decide +kernel, rfl, by decide +kernel, by decide +kernel⟩
def spBag (K : PySem.W.Frag) : Sp := fun vs H Q _ => ∃ (a : Addr) (ns : List Int), vs = [.ref a] ∧ SqL K H a (ns.map V.int) ∧ ns.length ≤ 63 ∧
  ∀ H' b c, Same H H' → Bag H' b c → H b = none → Q (.ref b) H'
theorem cut_map (ns : List Int) (lo hi : Option Int) : ∃ ms : List Int, cutV (ns.map V.int) lo hi = ms.map V.int ∧ ms.length ≤ ns.length := by
  unfold cutV
  refine ⟨(ns.drop (HT.sIx (ns.map V.int).length 0 lo)).take (HT.sIx (ns.map V.int).length (ns.map V.int).length hi - HT.sIx (ns.map V.int).length 0 lo), ?_, ?_⟩
  · rw [List.map_take, List.map_drop]
  · rw [List.length_take, List.length_drop]
    omega
section
variable {P : Program} {w : World} {K : PySem.W.Frag} {mg : Str → Option Value} {base : Heap}
theorem ok_bag {f : Addr} {fd : FuncData} {k : Nat} (F : Fun K "_law_bag" "_law_bag" sBag f fd) (ml : mg "len" = none) (mli : mg "list" = none) : FnOk P w K mg base CX0 (k + 1) f fd ["_law_script"] (spBag K) := by
  refine F.ok scBag (fun vs H Q E h => ?_) (fun cdv A outer s H vs Q E hr h => ?_)
  · obtain ⟨a, ns, rfl, _⟩ := h
    rfl
  · obtain ⟨a, ns, rfl, hS, hlen, q⟩ := h
    refine ⟨_, pss_one (ps_ret (pe_lst (pa_cons (pe_callTy call_list_of (by rfl) mli (by decide +kernel) (pa_cons (pe_slice sl_list (pv 0) po_none (po_some pe_int)) pa_nil))
      (pa_cons pe_int (pa_cons pe_int (pa_cons (pe_op op_add pe_int (pe_callB call_len_seq (by rfl) ml PySem.boot_len (pa_cons (pe_slice sl_list (pv 0) po_none (po_some pe_int)) pa_nil))) pa_nil)))))), ?_⟩
    obtain ⟨ms, em, lm⟩ := cut_map ns none (some 63)
    refine ⟨.ref a, rfl, 63, rfl, a, _, rfl, hS, fun p np => ?_⟩
    rw [em]
    refine ⟨p, _, rfl, .inl (.inl (.inl upd_same)), fun l nl => ?_⟩
    have s1 : Same H (upd H p (.lst (ms.map V.int))) := same_upd np
    have s2 : Same (upd H p (.lst (ms.map V.int))) (upd (upd H p (.lst (ms.map V.int))) l (.lst (ms.map V.int))) := same_upd nl
    refine ⟨.ref a, rfl, 63, rfl, a, _, rfl, (s1.trans s2).seq hS, fun p2 np2 => ?_⟩
    rw [em]
    have s3 := same_upd (o := .lst (ms.map V.int)) np2
    refine ⟨p2, _, rfl, .inl (.inl (.inl upd_same)), _, _, rfl, rfl, (show (4 : Nat) ≤ sizeLine by decide), fun b nb => ?_⟩
    have s4 := same_upd (o := .lst [.ref l, .int 0, .int 0, .int (9463 + ((ms.map V.int).length : Nat))]) nb
    have hl : (upd (upd (upd (upd H p (.lst (ms.map V.int))) l (.lst (ms.map V.int))) p2 (.lst (ms.map V.int))) b (.lst [.ref l, .int 0, .int 0, .int (9463 + ((ms.map V.int).length : Nat))])) l = some (.lst (ms.map V.int)) := s4 _ _ (s3 _ _ upd_same)
    refine q _ b l (((s1.trans s2).trans s3).trans s4) ⟨ms, 0, 0, _, upd_same, hl, by decide, by decide, ?_, ?_, ?_⟩ (((s1.trans s2).trans s3).free nb)
    · omega
    · rw [List.length_map]
      omega
    · exact ne_of_none (s3 _ _ (upd_same (H := upd H p (.lst (ms.map V.int))) (a := l) (o := .lst (ms.map V.int)))) nb
end
/-! ### _law_like -/
theorem Same.tup {K : PySem.W.Frag} {H H' : Hp} {a : Addr} {xs : List V} (e : Same H H') (h : SqT K H a xs) : SqT K H' a xs := by
  rcases h with (h | ⟨o, h⟩) | h
  · exact .inl (.inl (e _ _ h))
  · exact .inl (.inr ⟨o, e _ _ h⟩)
  · exact .inr h
theorem tyL {K : PySem.W.Frag} {H : Hp} {a : Addr} {xs : List V} (h : SqL K H a xs) : TyX K H (.ref a) (.type "list") := by
  rcases h with (h | ⟨o, h⟩) | ⟨o, its, n, h1, h2, h3⟩
  · exact .base (.lst h)
  · exact .base (.frz h)
  · exact .kList h1 h2
theorem tyT {K : PySem.W.Frag} {H : Hp} {a : Addr} {xs : List V} (h : SqT K H a xs) : TyX K H (.ref a) (.type "tuple") := by
  rcases h with (h | ⟨o, h⟩) | ⟨o, its, n, h1, h2, h3⟩
  · exact .base (.tup h)
  · exact .fTuple h
  · exact .kTuple h1 h2
theorem ix_any {K : PySem.W.Frag} {H : Hp} {a : Addr} {xs : List V} {i : Nat} {v : V} {Q : VK} (h : SqL K H a xs ∨ SqT K H a xs) (e : xs[i]? = some v) (q : Q v H) : rIx K (.ref a) (.int (i : Nat)) H Q := by
  rcases h with h | h
  · exact .inl ⟨a, xs, _, v, rfl, rfl, h, atI_nat e, q⟩
  · exact .inr (.inl ⟨a, xs, _, v, rfl, rfl, h, atI_nat e, q⟩)
/-- what was there before a new object was made stays, though that object changes -/
theorem Same.offUpd {H H' : Hp} {D : Addr} {o : HO} (e : Same H H') (n : H D = none) : Same H (upd H' D o) := fun b x h => by
  rw [upd_ne (ne_of_none h n)]
  exact e b x h
theorem yesT {σ : L2.St} {H : Hp} {A B : Hp → Prop} (h : A H) : tYes σ H (fun b H3 => if b = true then A H3 else B H3) := h
/-- the same data, of a depth below n -/
def Lk (K : PySem.W.Frag) (H : Hp) : Nat → V → V → Prop
  | 0, _, _ => False
  | n + 1, v, u => (v = u ∧ (v = .non ∨ (∃ b, v = .bl b) ∨ (∃ i, v = .int i) ∨ ∃ z, v = .str z)) ∨
    ∃ a b xs ys, v = .ref a ∧ u = .ref b ∧ ((SqL K H a xs ∧ SqL K H b ys) ∨ (SqT K H a xs ∧ SqT K H b ys)) ∧ xs.length = ys.length ∧ xs.length ≤ 1000 ∧ ∀ (i : Nat) (x y : V), xs[i]? = some x → ys[i]? = some y → Lk K H n x y
theorem Lk.same {K : PySem.W.Frag} {H H' : Hp} (e : Same H H') : ∀ (n : Nat) (v u : V), Lk K H n v u → Lk K H' n v u
  | 0, _, _, h => h
  | n + 1, v, u, h => by
    rcases h with h | ⟨a, b, xs, ys, e1, e2, h3, h4, h5, h6⟩
    · exact .inl h
    · refine .inr ⟨a, b, xs, ys, e1, e2, ?_, h4, h5, fun i x y p q => Lk.same e n x y (h6 i x y p q)⟩
      rcases h3 with ⟨p, q⟩ | ⟨p, q⟩
      · exact .inl ⟨e.seq p, e.seq q⟩
      · exact .inr ⟨Same.tup e p, Same.tup e q⟩
abbrev sLike : Stmt := topS 36
theorem scLike : FnScope ["_law_one", "_law_due", "_law_at"] ["_law_one", "_law_due"] (defScope sLike) := ⟨rfl, rfl, rfl, by decide +kernel, rfl, by decide +kernel, by decide +kernel⟩
def spLike (K : PySem.W.Frag) (n : Nat) : Sp := fun vs H Q _ => ∃ v u, vs = [v, u] ∧ Lk K H n v u ∧ ∀ H', Same H H' → Q (.bl true) H'
structure LkG (mg : Str → Option Value) : Prop where
  isi : mg "isinstance" = none
  tup : mg "tuple" = none
  lst : mg "list" = none
  len : mg "len" = none
  all : mg "all" = none
  rng : mg "range" = none
  bool : mg "bool" = none
  int : mg "int" = none
  str : mg "str" = none
section
variable {P : Program} {w : World} {K : PySem.W.Frag} {mg : Str → Option Value} {base : Heap}
theorem like_step {f : Addr} {fd : FuncData} {n : Nat} (F : Fun K "_law_like" "_law_like" sLike f fd) (b : Binds K fd ["_law_one", "_law_due"] []) (g : mg "_law_like" = some (.ref f)) (M : LkG mg)
    (G : FnOk P w K mg base CX0 n f fd ["_law_one", "_law_due"] (spLike K n)) : FnOk P w K mg base CX0 (n + 1) f fd ["_law_one", "_law_due"] (spLike K (n + 1)) := by
  refine F.ok scLike (fun vs H Q E h => ?_) (fun cdv A outer s H vs Q E hr h => ?_)
  · obtain ⟨v, u, rfl, _⟩ := h
    rfl
  · obtain ⟨v, u, rfl, hL, q⟩ := h
    refine ⟨_, pss_cons (ps_if (pt_val (pe_callB call_isiT (by rfl) M.isi (by decide +kernel) (pa_cons (pv 1) (pa_cons (pe_tup (pa_cons (pe_bltn (v := .ty "tuple") (by rfl) M.tup (by decide +kernel) rfl) (pa_cons (pe_bltn (v := .ty "list") (by rfl) M.lst (by decide +kernel) rfl) pa_nil))) pa_nil))))
        (pss_cons (ps_if (pt_cmpR op_ne (pe_callB call_isi (by rfl) M.isi (by decide +kernel) (pa_cons (pv 0) (pa_cons (pe_bltn (v := .ty "tuple") (by rfl) M.tup (by decide +kernel) rfl) pa_nil))) (pe_callB call_isi (by rfl) M.isi (by decide +kernel) (pa_cons (pv 1) (pa_cons (pe_bltn (v := .ty "tuple") (by rfl) M.tup (by decide +kernel) rfl) pa_nil))) (nomark _))
          (pss_one (ps_ret pe_bl)) pss_nil)
        (pss_cons (ps_if (PW.pt (pw_or (pt_not (pt_val (pe_callB call_isiT (by rfl) M.isi (by decide +kernel) (pa_cons (pv 0) (pa_cons (pe_tup (pa_cons (pe_bltn (v := .ty "tuple") (by rfl) M.tup (by decide +kernel) rfl) (pa_cons (pe_bltn (v := .ty "list") (by rfl) M.lst (by decide +kernel) rfl) pa_nil))) pa_nil)))))
            (pw_or1 (pt_cmpR op_ne (pe_callB call_len_seq (by rfl) M.len PySem.boot_len (pa_cons (pv 0) pa_nil)) (pe_callB call_len_seq (by rfl) M.len PySem.boot_len (pa_cons (pv 1) pa_nil)) (nomark _)))))
          (pss_one (ps_ret pe_bl)) pss_nil)
        (pss_one (ps_ret (pe_callB (cr_all rfl) (by rfl) M.all (by decide +kernel) (pa_cons (pe_lc (own := [("_law_at", 2)]) (g := gName 2) (tt := tYes) rfl scLike.nd (pi_range1 (by rfl) M.rng (pa_cons (pe_callB call_len_seq (by rfl) M.len PySem.boot_len (pa_cons (pv 1) pa_nil)) pa_nil))
            (blkOk_by (own := [("_law_at", 2)]) (N := ["_law_one", "_law_due", "_law_at"]) (sc := defScope sLike) (by decide +kernel)) (fun _ _ _ _ _ => pg_name (i := 2) scLike.nd rfl (Or.inl rfl)) (fun _ _ _ _ _ => pts_nil)
            (fun _ _ _ _ _ => pe_call G hr (by rfl) g F.kp b .nil pass0 (pa_cons (pe_ix (r := rIx K) ix_seq (pv 0) (pv 2) (fun _ _ => rfl)) (pa_cons (pe_ix (r := rIx K) ix_seq (pv 1) (pv 2) (fun _ _ => rfl)) pa_nil)))) pa_nil)))))) pss_nil)
      (pss_cons (ps_if (pt_val (pe_callB call_isi (by rfl) M.isi (by decide +kernel) (pa_cons (pv 1) (pa_cons (pe_bltn (v := .ty "bool") (by rfl) M.bool (by decide +kernel) rfl) pa_nil))))
        (pss_one (ps_ret (pe_and (pe_callB call_isi (by rfl) M.isi (by decide +kernel) (pa_cons (pv 0) (pa_cons (pe_bltn (v := .ty "bool") (by rfl) M.bool (by decide +kernel) rfl) pa_nil))) (pe_one (pe_cmpR op_eq (pv 0) (pv 1) (nomark _)))))) pss_nil)
      (pss_cons (ps_if (pt_val (pe_callB call_isi (by rfl) M.isi (by decide +kernel) (pa_cons (pv 1) (pa_cons (pe_bltn (v := .ty "int") (by rfl) M.int (by decide +kernel) rfl) pa_nil))))
        (pss_one (ps_ret (pe_and (pe_callB call_isi (by rfl) M.isi (by decide +kernel) (pa_cons (pv 0) (pa_cons (pe_bltn (v := .ty "int") (by rfl) M.int (by decide +kernel) rfl) pa_nil))) (pe_and (pe_not (pe_callB call_isi (by rfl) M.isi (by decide +kernel) (pa_cons (pv 0) (pa_cons (pe_bltn (v := .ty "bool") (by rfl) M.bool (by decide +kernel) rfl) pa_nil)))) (pe_one (pe_cmpR op_eq (pv 0) (pv 1) (nomark _))))))) pss_nil)
      (pss_cons (ps_if (pt_val (pe_callB call_isi (by rfl) M.isi (by decide +kernel) (pa_cons (pv 1) (pa_cons (pe_bltn (v := .ty "str") (by rfl) M.str (by decide +kernel) rfl) pa_nil))))
        (pss_one (ps_ret (pe_and (pe_callB call_isi (by rfl) M.isi (by decide +kernel) (pa_cons (pv 0) (pa_cons (pe_bltn (v := .ty "str") (by rfl) M.str (by decide +kernel) rfl) pa_nil))) (pe_one (pe_cmpR op_eq (pv 0) (pv 1) (nomark _)))))) pss_nil)
      (pss_one (ps_ret (pe_and (pe_cmp (pc_isN (pv 1)) rfl) (pe_one (pe_cmp (pc_isN (pv 0)) rfl)))))))), ?_⟩
    rcases hL with ⟨rfl, hs⟩ | ⟨a1, a2, xs, ys, rfl, rfl, h3, h4, h5, h6⟩
    · rcases hs with rfl | ⟨bb, rfl⟩ | ⟨i, rfl⟩ | ⟨z, rfl⟩
      · refine ⟨.non, rfl, (show (2 : Nat) ≤ sizeLine by decide), fun t nt => ⟨.non, t, _, .type "NoneType", [.type "tuple", .type "list"], false, rfl, upd_same, .cons (.ty _) (.cons (.ty _) .nil), .base .non, kitAny_cons (b := false) (kit_ty (by decide +kernel)) (fun _ => kitAny_cons (b := false) (kit_ty (by decide +kernel)) (fun _ => kitAny_nil) (fun e => nomatch e)) (fun e => nomatch e), _, rfl, iteF ?_⟩⟩
        refine ⟨.non, rfl, .non, _, _, _, false, rfl, .ty _, .base .non, kit_ty (by decide +kernel), _, rfl, iteF ?_⟩
        refine ⟨.non, rfl, .non, _, _, _, false, rfl, .ty _, .base .non, kit_ty (by decide +kernel), _, rfl, iteF ?_⟩
        refine ⟨.non, rfl, .non, _, _, _, false, rfl, .ty _, .base .non, kit_ty (by decide +kernel), _, rfl, iteF ?_⟩
        refine ⟨.non, rfl, _, rfl, iteT ⟨.non, rfl, ?_⟩⟩
        exact q _ (same_upd nt)
      · refine ⟨.bl bb, rfl, (show (2 : Nat) ≤ sizeLine by decide), fun t nt => ⟨.bl bb, t, _, .type "bool", [.type "tuple", .type "list"], false, rfl, upd_same, .cons (.ty _) (.cons (.ty _) .nil), .base (.bl bb), kitAny_cons (b := false) (kit_ty (by decide +kernel)) (fun _ => kitAny_cons (b := false) (kit_ty (by decide +kernel)) (fun _ => kitAny_nil) (fun e => nomatch e)) (fun e => nomatch e), _, rfl, iteF ?_⟩⟩
        refine ⟨.bl bb, rfl, .bl bb, _, _, _, true, rfl, .ty _, .base (.bl bb), kit_ty (by decide +kernel), _, rfl, iteT ?_⟩
        refine ⟨.bl bb, rfl, .bl bb, _, _, _, true, rfl, .ty _, .base (.bl bb), kit_ty (by decide +kernel), _, rfl, iteT ⟨.bl bb, rfl, .bl bb, rfl, rfl, ?_⟩⟩
        rw [decide_eq_true rfl]
        exact q _ (same_upd nt)
      · refine ⟨.int i, rfl, (show (2 : Nat) ≤ sizeLine by decide), fun t nt => ⟨.int i, t, _, .type "int", [.type "tuple", .type "list"], false, rfl, upd_same, .cons (.ty _) (.cons (.ty _) .nil), .base (.int i), kitAny_cons (b := false) (kit_ty (by decide +kernel)) (fun _ => kitAny_cons (b := false) (kit_ty (by decide +kernel)) (fun _ => kitAny_nil) (fun e => nomatch e)) (fun e => nomatch e), _, rfl, iteF ?_⟩⟩
        refine ⟨.int i, rfl, .int i, _, _, _, false, rfl, .ty _, .base (.int i), kit_ty (by decide +kernel), _, rfl, iteF ?_⟩
        refine ⟨.int i, rfl, .int i, _, _, _, true, rfl, .ty _, .base (.int i), kit_ty (by decide +kernel), _, rfl, iteT ?_⟩
        refine ⟨.int i, rfl, .int i, _, _, _, true, rfl, .ty _, .base (.int i), kit_ty (by decide +kernel), _, rfl, iteT ⟨.int i, rfl, .int i, _, _, _, false, rfl, .ty _, .base (.int i), kit_ty (by decide +kernel), _, rfl, _, rfl, iteT ⟨.int i, rfl, .int i, rfl, rfl, ?_⟩⟩⟩
        rw [decide_eq_true rfl]
        exact q _ (same_upd nt)
      · refine ⟨.str z, rfl, (show (2 : Nat) ≤ sizeLine by decide), fun t nt => ⟨.str z, t, _, .type "str", [.type "tuple", .type "list"], false, rfl, upd_same, .cons (.ty _) (.cons (.ty _) .nil), .base (.str z), kitAny_cons (b := false) (kit_ty (by decide +kernel)) (fun _ => kitAny_cons (b := false) (kit_ty (by decide +kernel)) (fun _ => kitAny_nil) (fun e => nomatch e)) (fun e => nomatch e), _, rfl, iteF ?_⟩⟩
        refine ⟨.str z, rfl, .str z, _, _, _, false, rfl, .ty _, .base (.str z), kit_ty (by decide +kernel), _, rfl, iteF ?_⟩
        refine ⟨.str z, rfl, .str z, _, _, _, false, rfl, .ty _, .base (.str z), kit_ty (by decide +kernel), _, rfl, iteF ?_⟩
        refine ⟨.str z, rfl, .str z, _, _, _, true, rfl, .ty _, .base (.str z), kit_ty (by decide +kernel), _, rfl, iteT ?_⟩
        refine ⟨.str z, rfl, .str z, _, _, _, true, rfl, .ty _, .base (.str z), kit_ty (by decide +kernel), _, rfl, iteT ⟨.str z, rfl, .str z, rfl, rfl, ?_⟩⟩
        rw [decide_eq_true rfl]
        exact q _ (same_upd nt)
    · obtain ⟨ty, bt, ht1, ht2, k2, k3, hq1, hq2⟩ : ∃ (ty : String) (bt : Bool), (∀ H', Same H H' → TyX K H' (.ref a1) (.type ty)) ∧ (∀ H', Same H H' → TyX K H' (.ref a2) (.type ty)) ∧ PySem.W.kitAny K (.type ty) [.type "tuple", .type "list"] = some true ∧ PySem.W.kitOne K (.type ty) (.type "tuple") = some bt ∧ (∀ H', Same H H' → SqL K H' a1 xs ∨ SqT K H' a1 xs) ∧ (∀ H', Same H H' → SqL K H' a2 ys ∨ SqT K H' a2 ys) := by
        rcases h3 with ⟨p1, p2⟩ | ⟨p1, p2⟩
        · exact ⟨"list", false, fun _ e => tyL (e.seq p1), fun _ e => tyL (e.seq p2), kitAny_cons (b := false) (kit_ty (by decide +kernel)) (fun _ => kitAny_cons (b := true) (kit_ty (by decide +kernel)) (fun e => nomatch e) (fun _ => rfl)) (fun e => nomatch e), kit_ty (by decide +kernel), fun _ e => .inl (e.seq p1), fun _ e => .inl (e.seq p2)⟩
        · exact ⟨"tuple", true, fun _ e => tyT (Same.tup e p1), fun _ e => tyT (Same.tup e p2), kitAny_cons (b := true) (kit_ty (by decide +kernel)) (fun e => nomatch e) (fun _ => rfl), kit_ty (by decide +kernel), fun _ e => .inr (Same.tup e p1), fun _ e => .inr (Same.tup e p2)⟩
      refine ⟨.ref a2, rfl, (show (2 : Nat) ≤ sizeLine by decide), fun t nt => ⟨.ref a2, t, _, .type ty, [.type "tuple", .type "list"], true, rfl, upd_same, .cons (.ty _) (.cons (.ty _) .nil), ht2 _ (same_upd nt), k2, _, rfl, iteT ?_⟩⟩
      have s1 : Same H (upd H t (.tup [.ty "tuple", .ty "list"])) := same_upd nt
      refine ⟨.ref a1, rfl, .ref a1, _, _, _, bt, rfl, .ty _, ht1 _ s1, k3, .ref a2, rfl, .ref a2, _, _, _, bt, rfl, .ty _, ht2 _ s1, k3, rfl, _, rfl, iteNS rfl ?_⟩
      refine ⟨.ref a1, rfl, (show (2 : Nat) ≤ sizeLine by decide), fun t2 nt2 => ⟨.ref a1, t2, _, .type ty, [.type "tuple", .type "list"], true, rfl, upd_same, .cons (.ty _) (.cons (.ty _) .nil), ht1 _ (s1.trans (same_upd nt2)), k2, _, rfl, iteF ?_⟩⟩
      have s2 := s1.trans (same_upd (o := .tup [.ty "tuple", .ty "list"]) nt2)
      generalize upd (upd H t (.tup [.ty "tuple", .ty "list"])) t2 (.tup [.ty "tuple", .ty "list"]) = H2 at s2 ⊢
      refine ⟨.ref a1, rfl, a1, xs, rfl, hq1 _ s2, .ref a2, rfl, a2, ys, rfl, hq2 _ s2, rfl, _, rfl, iteNS (by rw [h4]) ?_⟩
      refine ⟨.ref a2, rfl, a2, ys, rfl, hq2 _ s2, (ys.length : Nat), rfl, by omega, by omega, fun D nD => ?_⟩
      refine lc_range (lo := 0) (n := ((ys.length : Nat) : Int).toNat) (fun i H' => Same H2 H' ∧ H' D = some (.lst ((List.replicate i true).map V.bl))) ⟨same_upd nD, upd_same⟩ (fun i H' hi hP => ?_) (fun H' hP => ?_)
      · obtain ⟨sm, hD⟩ := hP
        have hi2 : i < ys.length := by omega
        have hi1 : i < xs.length := by omega
        have e0 : (0 : Int) + (i : Int) = (i : Nat) := by omega
        have s3 := s2.trans sm
        refine ⟨rfl, yesT ?_⟩
        refine ⟨.ref a1, rfl, .int (0 + i), rfl, ?_⟩
        rw [e0]
        refine ix_any (hq1 _ s3) (List.getElem?_eq_getElem hi1) ⟨.ref a2, rfl, _, rfl, ?_⟩
        refine ix_any (hq2 _ s3) (List.getElem?_eq_getElem hi2) ?_
        refine ⟨xs[i], ys[i], rfl, Lk.same s3 n _ _ (h6 i _ _ (List.getElem?_eq_getElem hi1) (List.getElem?_eq_getElem hi2)), fun H3 sm3 => ?_⟩
        refine ⟨_, sm3 _ _ hD, ?_, Same.offUpd (sm.trans sm3) nD, ?_⟩
        · rw [List.length_map, List.length_replicate]
          exact small1000 (by omega)
        · rw [upd_same, List.replicate_succ', List.map_append]
          rfl
      · obtain ⟨sm, hD⟩ := hP
        refine ⟨D, _, rfl, .inl (.inl hD), ?_⟩
        rw [show (List.replicate ((ys.length : Nat) : Int).toNat true).all id = true by simp]
        exact q _ (s2.trans sm)
theorem ok_like {f : Addr} {fd : FuncData} (F : Fun K "_law_like" "_law_like" sLike f fd) (b : Binds K fd ["_law_one", "_law_due"] []) (g : mg "_law_like" = some (.ref f)) (M : LkG mg) : ∀ n : Nat, FnOk P w K mg base CX0 n f fd ["_law_one", "_law_due"] (spLike K n)
  | 0 => ⟨fun vs H Q E h => by obtain ⟨v, u, _, h, _⟩ := h; exact h.elim, fun A outer s H args us vs Q E hr he hb hv h => by obtain ⟨v, u, _, h, _⟩ := h; exact h.elim⟩
  | n + 1 => like_step F b g M (ok_like F b g M n)
end
/-! ### _law_refusals -/
abbrev sRefs : Stmt := topS 35
abbrev nRefs : List Str := ["_law_n", "_law_m", "_law_some"]
theorem scRefs : FnScope nRefs ["_law_n", "_law_m"] (defScope sRefs) := ⟨rfl, rfl, rfl, by decide +kernel, rfl, by decide +kernel, by decide +kernel⟩
/-- the values of the refusal i -/
def wsOf (n m : Int) (i : Nat) : List V := if i = 2 then [.int n, .int m] else if (rFl i).length = 0 then [] else [.int n]
def RefsUp (cm : Nat → Addr) (n m : Int) (H : Hp) (rs : List V) : Prop := ∀ (i : Nat) (v : V), rs[i]? = some v → RefAt H v (cm i) (rFs i (wsOf n m i))
theorem RefsUp.same {cm : Nat → Addr} {n m : Int} {H H' : Hp} {rs : List V} (h : RefsUp cm n m H rs) (e : Same H H') : RefsUp cm n m H' rs := fun i v hi => (h i v hi).same e
theorem RefsUp.snoc {cm : Nat → Addr} {n m : Int} {H : Hp} {rs : List V} {v : V} (h : RefsUp cm n m H rs) (k : Nat) (hk : rs.length = k) (hv : RefAt H v (cm k) (rFs k (wsOf n m k))) : RefsUp cm n m H (rs ++ [v]) := fun i u hi => by
  by_cases e : i < rs.length
  · rw [List.getElem?_append_left e] at hi
    exact h i u hi
  · rw [List.getElem?_append_right (by omega)] at hi
    obtain rfl : i = k := by
      cases q : i - rs.length with
      | zero => omega
      | succ j => rw [q] at hi; cases hi
    rw [hk, Nat.sub_self] at hi
    obtain rfl := Option.some.inj hi
    exact hv
def spRefs (cm : Nat → Addr) : Sp := fun vs H Q _ => ∃ n m : Int, vs = [.int n, .int m] ∧ ∀ H' p rs, Same H H' → H' p = some (.lst rs) → rs.length = 28 → RefsUp cm n m H' rs → Q (.ref p) H'
section
variable {P : Program} {w : World} {K : PySem.W.Frag} {mg : Str → Option Value} {base : Heap}
theorem ok_refs {f : Addr} {fd : FuncData} {k : Nat} {cm : Nat → Addr} (F : Fun K "_law_refusals" "_law_refusals" sRefs f fd) (R : ∀ i, i < 28 → ExcK P w K mg base k (rNm i) (cm i) (rFl i).length (rFs i)) : FnOk P w K mg base CX0 (k + 2) f fd ["_law_n", "_law_m"] (spRefs cm) := by
  refine F.ok scRefs (fun vs H Q E h => ?_) (fun cdv A outer s H vs Q E hr h => ?_)
  · obtain ⟨n, m, rfl, _⟩ := h
    rfl
  · obtain ⟨n, m, rfl, q⟩ := h
    refine ⟨_, pss_cons (ps_set (i := 2) scRefs.nd rfl (.inl rfl) (pe_lst (pa_cons (pe_refV (R 0 (by decide)) hr (by rfl) (pa_cons (pv 0) pa_nil)) (pa_cons (pe_refV (R 1 (by decide)) hr (by rfl) (pa_cons (pv 0) pa_nil)) (pa_cons (pe_refV (R 2 (by decide)) hr (by rfl) (pa_cons (pv 0) (pa_cons (pv 1) pa_nil))) (pa_cons (pe_refV (R 3 (by decide)) hr (by rfl) (pa_cons (pv 0) pa_nil)) pa_nil))))))
      (pss_cons (ps_set (i := 2) scRefs.nd rfl (.inl rfl) (pe_op op_cat (pv 2) (pe_lst (pa_cons (pe_refV (R 4 (by decide)) hr (by rfl) (pa_cons (pv 0) pa_nil)) (pa_cons (pe_refV0 (R 5 (by decide)) hr (by rfl)) (pa_cons (pe_refV0 (R 6 (by decide)) hr (by rfl)) (pa_cons (pe_refV0 (R 7 (by decide)) hr (by rfl)) pa_nil)))))))
      (pss_cons (ps_set (i := 2) scRefs.nd rfl (.inl rfl) (pe_op op_cat (pv 2) (pe_lst (pa_cons (pe_refV (R 8 (by decide)) hr (by rfl) (pa_cons (pv 0) pa_nil)) (pa_cons (pe_refV (R 9 (by decide)) hr (by rfl) (pa_cons (pv 0) pa_nil)) (pa_cons (pe_refV0 (R 10 (by decide)) hr (by rfl)) (pa_cons (pe_refV (R 11 (by decide)) hr (by rfl) (pa_cons (pv 0) pa_nil)) pa_nil)))))))
      (pss_cons (ps_set (i := 2) scRefs.nd rfl (.inl rfl) (pe_op op_cat (pv 2) (pe_lst (pa_cons (pe_refV (R 12 (by decide)) hr (by rfl) (pa_cons (pv 0) pa_nil)) (pa_cons (pe_refV (R 13 (by decide)) hr (by rfl) (pa_cons (pv 0) pa_nil)) (pa_cons (pe_refV (R 14 (by decide)) hr (by rfl) (pa_cons (pv 0) pa_nil)) (pa_cons (pe_refV0 (R 15 (by decide)) hr (by rfl)) pa_nil)))))))
      (pss_cons (ps_set (i := 2) scRefs.nd rfl (.inl rfl) (pe_op op_cat (pv 2) (pe_lst (pa_cons (pe_refV (R 16 (by decide)) hr (by rfl) (pa_cons (pv 0) pa_nil)) (pa_cons (pe_refV0 (R 17 (by decide)) hr (by rfl)) (pa_cons (pe_refV (R 18 (by decide)) hr (by rfl) (pa_cons (pv 0) pa_nil)) (pa_cons (pe_refV (R 19 (by decide)) hr (by rfl) (pa_cons (pv 0) pa_nil)) pa_nil)))))))
      (pss_cons (ps_set (i := 2) scRefs.nd rfl (.inl rfl) (pe_op op_cat (pv 2) (pe_lst (pa_cons (pe_refV (R 20 (by decide)) hr (by rfl) (pa_cons (pv 0) pa_nil)) (pa_cons (pe_refV0 (R 21 (by decide)) hr (by rfl)) (pa_cons (pe_refV (R 22 (by decide)) hr (by rfl) (pa_cons (pv 0) pa_nil)) (pa_cons (pe_refV (R 23 (by decide)) hr (by rfl) (pa_cons (pv 0) pa_nil)) pa_nil)))))))
      (pss_cons (ps_set (i := 2) scRefs.nd rfl (.inl rfl) (pe_op op_cat (pv 2) (pe_lst (pa_cons (pe_refV (R 24 (by decide)) hr (by rfl) (pa_cons (pv 0) pa_nil)) (pa_cons (pe_refV (R 25 (by decide)) hr (by rfl) (pa_cons (pv 0) pa_nil)) (pa_cons (pe_refV0 (R 26 (by decide)) hr (by rfl)) (pa_cons (pe_refV0 (R 27 (by decide)) hr (by rfl)) pa_nil)))))))
      (pss_one (ps_ret (pv 2))))))))), ?_⟩
    refine ⟨.int n, rfl, rfl, (show (1 : Nat) ≤ 1000 by decide), fun v0 H0 s0 r0 => ?_⟩
    refine ⟨.int n, rfl, rfl, (show (1 : Nat) ≤ 1000 by decide), fun v1 H1 s1 r1 => ?_⟩
    refine ⟨.int n, rfl, .int m, rfl, rfl, (show (2 : Nat) ≤ 1000 by decide), fun v2 H2 s2 r2 => ?_⟩
    refine ⟨.int n, rfl, rfl, (show (1 : Nat) ≤ 1000 by decide), fun v3 H3 s3 r3 => ?_⟩
    refine ⟨(show (4 : Nat) ≤ sizeLine by decide), fun p0 np0 => ?_⟩
    have u0 := same_upd (o := .lst [v0, v1, v2, v3]) np0
    have c0 := ((((s0.trans s1).trans s2).trans s3).trans u0)
    have d0 : upd H3 p0 (.lst [v0, v1, v2, v3]) p0 = some (.lst [v0, v1, v2, v3]) := upd_same
    have g0 := (RefsUp.snoc (RefsUp.snoc (RefsUp.snoc (RefsUp.snoc (show RefsUp cm n m (upd H3 p0 (.lst [v0, v1, v2, v3])) [] from fun i v hi => nomatch hi) 0 (rfl) (r0.same (s1.trans (s2.trans (s3.trans u0))))) 1 (rfl) (r1.same (s2.trans (s3.trans u0)))) 2 (rfl) (r2.same (s3.trans u0))) 3 (rfl) (r3.same u0))
    obtain ⟨rs0, er0, e0⟩ : ∃ rs, rs = [v0, v1, v2, v3] ∧ rs.length = 4 := ⟨_, rfl, rfl⟩
    rw [show ((([] ++ [v0]) ++ [v1]) ++ [v2]) ++ [v3] = rs0 from er0.symm] at g0
    rw [← er0] at g0 d0 c0 u0 ⊢
    refine ⟨.ref p0, rfl, .int n, rfl, rfl, (show (1 : Nat) ≤ 1000 by decide), fun v4 H4 s4 r4 => ?_⟩
    refine ⟨rfl, (show (0 : Nat) ≤ 1000 by decide), fun v5 H5 s5 r5 => ?_⟩
    refine ⟨rfl, (show (0 : Nat) ≤ 1000 by decide), fun v6 H6 s6 r6 => ?_⟩
    refine ⟨rfl, (show (0 : Nat) ≤ 1000 by decide), fun v7 H7 s7 r7 => ?_⟩
    refine ⟨(show (4 : Nat) ≤ sizeLine by decide), fun l1 nl1 => ?_⟩
    have u1 := same_upd (o := .lst [v4, v5, v6, v7]) nl1
    have t1 := ((((s4.trans s5).trans s6).trans s7).trans u1)
    refine ⟨p0, l1, _, _, rfl, rfl, t1 _ _ d0, upd_same, ?_, fun p1 np1 => ?_⟩
    · rw [e0]
      exact (show (8 : Nat) ≤ sizeLine by decide)
    have w1 := same_upd (o := .lst (rs0 ++ [v4, v5, v6, v7])) np1
    have c1 := (c0.trans t1).trans w1
    have d1 : upd (upd H7 l1 (.lst [v4, v5, v6, v7])) p1 (.lst (rs0 ++ [v4, v5, v6, v7])) p1 = some (.lst (rs0 ++ [v4, v5, v6, v7])) := upd_same
    have g1 := (RefsUp.snoc (RefsUp.snoc (RefsUp.snoc (RefsUp.snoc (g0.same (t1.trans w1)) 4 (e0) (r4.same (s5.trans (s6.trans (s7.trans (u1.trans w1)))))) 5 (by simp [e0]) (r5.same (s6.trans (s7.trans (u1.trans w1))))) 6 (by simp [e0]) (r6.same (s7.trans (u1.trans w1)))) 7 (by simp [e0]) (r7.same (u1.trans w1)))
    obtain ⟨rs1, er1, e1⟩ : ∃ rs, rs = rs0 ++ [v4, v5, v6, v7] ∧ rs.length = 8 := ⟨_, rfl, by simp [e0]⟩
    rw [show ((((rs0 ++ [v4]) ++ [v5]) ++ [v6]) ++ [v7]) = rs1 from by rw [er1]; simp] at g1
    rw [← er1] at g1 d1 c1 ⊢
    refine ⟨.ref p1, rfl, .int n, rfl, rfl, (show (1 : Nat) ≤ 1000 by decide), fun v8 H8 s8 r8 => ?_⟩
    refine ⟨.int n, rfl, rfl, (show (1 : Nat) ≤ 1000 by decide), fun v9 H9 s9 r9 => ?_⟩
    refine ⟨rfl, (show (0 : Nat) ≤ 1000 by decide), fun v10 H10 s10 r10 => ?_⟩
    refine ⟨.int n, rfl, rfl, (show (1 : Nat) ≤ 1000 by decide), fun v11 H11 s11 r11 => ?_⟩
    refine ⟨(show (4 : Nat) ≤ sizeLine by decide), fun l2 nl2 => ?_⟩
    have u2 := same_upd (o := .lst [v8, v9, v10, v11]) nl2
    have t2 := ((((s8.trans s9).trans s10).trans s11).trans u2)
    refine ⟨p1, l2, _, _, rfl, rfl, t2 _ _ d1, upd_same, ?_, fun p2 np2 => ?_⟩
    · rw [e1]
      exact (show (12 : Nat) ≤ sizeLine by decide)
    have w2 := same_upd (o := .lst (rs1 ++ [v8, v9, v10, v11])) np2
    have c2 := (c1.trans t2).trans w2
    have d2 : upd (upd H11 l2 (.lst [v8, v9, v10, v11])) p2 (.lst (rs1 ++ [v8, v9, v10, v11])) p2 = some (.lst (rs1 ++ [v8, v9, v10, v11])) := upd_same
    have g2 := (RefsUp.snoc (RefsUp.snoc (RefsUp.snoc (RefsUp.snoc (g1.same (t2.trans w2)) 8 (e1) (r8.same (s9.trans (s10.trans (s11.trans (u2.trans w2)))))) 9 (by simp [e1]) (r9.same (s10.trans (s11.trans (u2.trans w2))))) 10 (by simp [e1]) (r10.same (s11.trans (u2.trans w2)))) 11 (by simp [e1]) (r11.same (u2.trans w2)))
    obtain ⟨rs2, er2, e2⟩ : ∃ rs, rs = rs1 ++ [v8, v9, v10, v11] ∧ rs.length = 12 := ⟨_, rfl, by simp [e1]⟩
    rw [show ((((rs1 ++ [v8]) ++ [v9]) ++ [v10]) ++ [v11]) = rs2 from by rw [er2]; simp] at g2
    rw [← er2] at g2 d2 c2 ⊢
    refine ⟨.ref p2, rfl, .int n, rfl, rfl, (show (1 : Nat) ≤ 1000 by decide), fun v12 H12 s12 r12 => ?_⟩
    refine ⟨.int n, rfl, rfl, (show (1 : Nat) ≤ 1000 by decide), fun v13 H13 s13 r13 => ?_⟩
    refine ⟨.int n, rfl, rfl, (show (1 : Nat) ≤ 1000 by decide), fun v14 H14 s14 r14 => ?_⟩
    refine ⟨rfl, (show (0 : Nat) ≤ 1000 by decide), fun v15 H15 s15 r15 => ?_⟩
    refine ⟨(show (4 : Nat) ≤ sizeLine by decide), fun l3 nl3 => ?_⟩
    have u3 := same_upd (o := .lst [v12, v13, v14, v15]) nl3
    have t3 := ((((s12.trans s13).trans s14).trans s15).trans u3)
    refine ⟨p2, l3, _, _, rfl, rfl, t3 _ _ d2, upd_same, ?_, fun p3 np3 => ?_⟩
    · rw [e2]
      exact (show (16 : Nat) ≤ sizeLine by decide)
    have w3 := same_upd (o := .lst (rs2 ++ [v12, v13, v14, v15])) np3
    have c3 := (c2.trans t3).trans w3
    have d3 : upd (upd H15 l3 (.lst [v12, v13, v14, v15])) p3 (.lst (rs2 ++ [v12, v13, v14, v15])) p3 = some (.lst (rs2 ++ [v12, v13, v14, v15])) := upd_same
    have g3 := (RefsUp.snoc (RefsUp.snoc (RefsUp.snoc (RefsUp.snoc (g2.same (t3.trans w3)) 12 (e2) (r12.same (s13.trans (s14.trans (s15.trans (u3.trans w3)))))) 13 (by simp [e2]) (r13.same (s14.trans (s15.trans (u3.trans w3))))) 14 (by simp [e2]) (r14.same (s15.trans (u3.trans w3)))) 15 (by simp [e2]) (r15.same (u3.trans w3)))
    obtain ⟨rs3, er3, e3⟩ : ∃ rs, rs = rs2 ++ [v12, v13, v14, v15] ∧ rs.length = 16 := ⟨_, rfl, by simp [e2]⟩
    rw [show ((((rs2 ++ [v12]) ++ [v13]) ++ [v14]) ++ [v15]) = rs3 from by rw [er3]; simp] at g3
    rw [← er3] at g3 d3 c3 ⊢
    refine ⟨.ref p3, rfl, .int n, rfl, rfl, (show (1 : Nat) ≤ 1000 by decide), fun v16 H16 s16 r16 => ?_⟩
    refine ⟨rfl, (show (0 : Nat) ≤ 1000 by decide), fun v17 H17 s17 r17 => ?_⟩
    refine ⟨.int n, rfl, rfl, (show (1 : Nat) ≤ 1000 by decide), fun v18 H18 s18 r18 => ?_⟩
    refine ⟨.int n, rfl, rfl, (show (1 : Nat) ≤ 1000 by decide), fun v19 H19 s19 r19 => ?_⟩
    refine ⟨(show (4 : Nat) ≤ sizeLine by decide), fun l4 nl4 => ?_⟩
    have u4 := same_upd (o := .lst [v16, v17, v18, v19]) nl4
    have t4 := ((((s16.trans s17).trans s18).trans s19).trans u4)
    refine ⟨p3, l4, _, _, rfl, rfl, t4 _ _ d3, upd_same, ?_, fun p4 np4 => ?_⟩
    · rw [e3]
      exact (show (20 : Nat) ≤ sizeLine by decide)
    have w4 := same_upd (o := .lst (rs3 ++ [v16, v17, v18, v19])) np4
    have c4 := (c3.trans t4).trans w4
    have d4 : upd (upd H19 l4 (.lst [v16, v17, v18, v19])) p4 (.lst (rs3 ++ [v16, v17, v18, v19])) p4 = some (.lst (rs3 ++ [v16, v17, v18, v19])) := upd_same
    have g4 := (RefsUp.snoc (RefsUp.snoc (RefsUp.snoc (RefsUp.snoc (g3.same (t4.trans w4)) 16 (e3) (r16.same (s17.trans (s18.trans (s19.trans (u4.trans w4)))))) 17 (by simp [e3]) (r17.same (s18.trans (s19.trans (u4.trans w4))))) 18 (by simp [e3]) (r18.same (s19.trans (u4.trans w4)))) 19 (by simp [e3]) (r19.same (u4.trans w4)))
    obtain ⟨rs4, er4, e4⟩ : ∃ rs, rs = rs3 ++ [v16, v17, v18, v19] ∧ rs.length = 20 := ⟨_, rfl, by simp [e3]⟩
    rw [show ((((rs3 ++ [v16]) ++ [v17]) ++ [v18]) ++ [v19]) = rs4 from by rw [er4]; simp] at g4
    rw [← er4] at g4 d4 c4 ⊢
    refine ⟨.ref p4, rfl, .int n, rfl, rfl, (show (1 : Nat) ≤ 1000 by decide), fun v20 H20 s20 r20 => ?_⟩
    refine ⟨rfl, (show (0 : Nat) ≤ 1000 by decide), fun v21 H21 s21 r21 => ?_⟩
    refine ⟨.int n, rfl, rfl, (show (1 : Nat) ≤ 1000 by decide), fun v22 H22 s22 r22 => ?_⟩
    refine ⟨.int n, rfl, rfl, (show (1 : Nat) ≤ 1000 by decide), fun v23 H23 s23 r23 => ?_⟩
    refine ⟨(show (4 : Nat) ≤ sizeLine by decide), fun l5 nl5 => ?_⟩
    have u5 := same_upd (o := .lst [v20, v21, v22, v23]) nl5
    have t5 := ((((s20.trans s21).trans s22).trans s23).trans u5)
    refine ⟨p4, l5, _, _, rfl, rfl, t5 _ _ d4, upd_same, ?_, fun p5 np5 => ?_⟩
    · rw [e4]
      exact (show (24 : Nat) ≤ sizeLine by decide)
    have w5 := same_upd (o := .lst (rs4 ++ [v20, v21, v22, v23])) np5
    have c5 := (c4.trans t5).trans w5
    have d5 : upd (upd H23 l5 (.lst [v20, v21, v22, v23])) p5 (.lst (rs4 ++ [v20, v21, v22, v23])) p5 = some (.lst (rs4 ++ [v20, v21, v22, v23])) := upd_same
    have g5 := (RefsUp.snoc (RefsUp.snoc (RefsUp.snoc (RefsUp.snoc (g4.same (t5.trans w5)) 20 (e4) (r20.same (s21.trans (s22.trans (s23.trans (u5.trans w5)))))) 21 (by simp [e4]) (r21.same (s22.trans (s23.trans (u5.trans w5))))) 22 (by simp [e4]) (r22.same (s23.trans (u5.trans w5)))) 23 (by simp [e4]) (r23.same (u5.trans w5)))
    obtain ⟨rs5, er5, e5⟩ : ∃ rs, rs = rs4 ++ [v20, v21, v22, v23] ∧ rs.length = 24 := ⟨_, rfl, by simp [e4]⟩
    rw [show ((((rs4 ++ [v20]) ++ [v21]) ++ [v22]) ++ [v23]) = rs5 from by rw [er5]; simp] at g5
    rw [← er5] at g5 d5 c5 ⊢
    refine ⟨.ref p5, rfl, .int n, rfl, rfl, (show (1 : Nat) ≤ 1000 by decide), fun v24 H24 s24 r24 => ?_⟩
    refine ⟨.int n, rfl, rfl, (show (1 : Nat) ≤ 1000 by decide), fun v25 H25 s25 r25 => ?_⟩
    refine ⟨rfl, (show (0 : Nat) ≤ 1000 by decide), fun v26 H26 s26 r26 => ?_⟩
    refine ⟨rfl, (show (0 : Nat) ≤ 1000 by decide), fun v27 H27 s27 r27 => ?_⟩
    refine ⟨(show (4 : Nat) ≤ sizeLine by decide), fun l6 nl6 => ?_⟩
    have u6 := same_upd (o := .lst [v24, v25, v26, v27]) nl6
    have t6 := ((((s24.trans s25).trans s26).trans s27).trans u6)
    refine ⟨p5, l6, _, _, rfl, rfl, t6 _ _ d5, upd_same, ?_, fun p6 np6 => ?_⟩
    · rw [e5]
      exact (show (28 : Nat) ≤ sizeLine by decide)
    have w6 := same_upd (o := .lst (rs5 ++ [v24, v25, v26, v27])) np6
    have c6 := (c5.trans t6).trans w6
    have d6 : upd (upd H27 l6 (.lst [v24, v25, v26, v27])) p6 (.lst (rs5 ++ [v24, v25, v26, v27])) p6 = some (.lst (rs5 ++ [v24, v25, v26, v27])) := upd_same
    have g6 := (RefsUp.snoc (RefsUp.snoc (RefsUp.snoc (RefsUp.snoc (g5.same (t6.trans w6)) 24 (e5) (r24.same (s25.trans (s26.trans (s27.trans (u6.trans w6)))))) 25 (by simp [e5]) (r25.same (s26.trans (s27.trans (u6.trans w6))))) 26 (by simp [e5]) (r26.same (s27.trans (u6.trans w6)))) 27 (by simp [e5]) (r27.same (u6.trans w6)))
    obtain ⟨rs6, er6, e6⟩ : ∃ rs, rs = rs5 ++ [v24, v25, v26, v27] ∧ rs.length = 28 := ⟨_, rfl, by simp [e5]⟩
    rw [show ((((rs5 ++ [v24]) ++ [v25]) ++ [v26]) ++ [v27]) = rs6 from by rw [er6]; simp] at g6
    rw [← er6] at g6 d6 c6 ⊢
    exact ⟨.ref p6, rfl, q _ p6 rs6 c6 d6 e6 g6⟩
end
/-! ### _law_flags -/
abbrev sFlags : Stmt := topS 37
theorem scFlags : FnScope ["_law_e", "_law_found"] ["_law_e"] (defScope sFlags) := ⟨rfl, rfl, rfl, by decide +kernel, rfl, by decide +kernel, by decide +kernel⟩
/-- what the classes tell of one another -/
structure KinT (K : PySem.W.Frag) (mg : Str → Option Value) (cm : Nat → Addr) : Prop where
  mgC : ∀ i, i < 28 → mg (rNm i) = some (.ref (cm i))
  ex : ∀ i, i < 28 → ExcC K (cm i)
  sub : ∀ i j, i < 28 → j < 28 → PySem.W.kitOne K (.ref (cm i)) (.ref (cm j)) = some (decide (i = j))
theorem KinT.is {K : PySem.W.Frag} {mg : Str → Option Value} {cm : Nat → Addr} (T : KinT K mg cm) {H : Hp} {v : V} {i : Nat} {fs : List (Str × V)} {Q : VK} (hi : i < 28) (h : RefAt H v (cm i) fs) (j : Nat) (hj : j < 28) (q : Q (.bl (decide (i = j))) H) : rIsV K [v, .ref (cm j)] H Q := by
  obtain ⟨a, dx, rfl, h1, h2⟩ := h
  exact ⟨a, cm i, dx, fs, .ref (cm j), .ref (cm j), _, rfl, h1, h2, T.ex i hi, fun u r => r, T.sub i j hi hj, q⟩
def flagsV (i : Nat) : List V := (List.range 28).map fun j => .bl (decide (i = j))
def spFlags (cm : Nat → Addr) : Sp := fun vs H Q _ => ∃ (v : V) (i : Nat) (fs : List (Str × V)), vs = [v] ∧ i < 28 ∧ RefAt H v (cm i) fs ∧ ∀ H' p, Same H H' → H' p = some (.lst (flagsV i)) → Q (.ref p) H'
section
variable {P : Program} {w : World} {K : PySem.W.Frag} {mg : Str → Option Value} {base : Heap}
theorem ok_flags {f : Addr} {fd : FuncData} {k : Nat} {cm : Nat → Addr} (F : Fun K "_law_flags" "_law_flags" sFlags f fd) (mi : mg "isinstance" = none) (T : KinT K mg cm) : FnOk P w K mg base CX0 (k + 1) f fd ["_law_e"] (spFlags cm) := by
  refine F.ok scFlags (fun vs H Q E h => ?_) (fun cdv A outer s H vs Q E hr h => ?_)
  · obtain ⟨v, i, fs, rfl, _⟩ := h
    rfl
  · obtain ⟨v, i, fs, rfl, hi, ⟨a, dx, rfl, h1, h2⟩, q⟩ := h
    refine ⟨_, pss_cons (ps_set (i := 1) scFlags.nd rfl (.inl rfl) (pe_lst (pa_cons (pe_callB call_isV (by rfl) mi (by decide +kernel) (pa_cons (pv 0) (pa_cons (pe_glob (v := .ref (cm 0)) (by rfl) (T.mgC 0 (by decide)) rfl) pa_nil))) (pa_cons (pe_callB call_isV (by rfl) mi (by decide +kernel) (pa_cons (pv 0) (pa_cons (pe_glob (v := .ref (cm 1)) (by rfl) (T.mgC 1 (by decide)) rfl) pa_nil))) (pa_cons (pe_callB call_isV (by rfl) mi (by decide +kernel) (pa_cons (pv 0) (pa_cons (pe_glob (v := .ref (cm 2)) (by rfl) (T.mgC 2 (by decide)) rfl) pa_nil))) pa_nil)))))
      (pss_cons (ps_set (i := 1) scFlags.nd rfl (.inl rfl) (pe_op op_cat (pv 1) (pe_lst (pa_cons (pe_callB call_isV (by rfl) mi (by decide +kernel) (pa_cons (pv 0) (pa_cons (pe_glob (v := .ref (cm 3)) (by rfl) (T.mgC 3 (by decide)) rfl) pa_nil))) (pa_cons (pe_callB call_isV (by rfl) mi (by decide +kernel) (pa_cons (pv 0) (pa_cons (pe_glob (v := .ref (cm 4)) (by rfl) (T.mgC 4 (by decide)) rfl) pa_nil))) (pa_cons (pe_callB call_isV (by rfl) mi (by decide +kernel) (pa_cons (pv 0) (pa_cons (pe_glob (v := .ref (cm 5)) (by rfl) (T.mgC 5 (by decide)) rfl) pa_nil))) pa_nil))))))
      (pss_cons (ps_set (i := 1) scFlags.nd rfl (.inl rfl) (pe_op op_cat (pv 1) (pe_lst (pa_cons (pe_callB call_isV (by rfl) mi (by decide +kernel) (pa_cons (pv 0) (pa_cons (pe_glob (v := .ref (cm 6)) (by rfl) (T.mgC 6 (by decide)) rfl) pa_nil))) (pa_cons (pe_callB call_isV (by rfl) mi (by decide +kernel) (pa_cons (pv 0) (pa_cons (pe_glob (v := .ref (cm 7)) (by rfl) (T.mgC 7 (by decide)) rfl) pa_nil))) (pa_cons (pe_callB call_isV (by rfl) mi (by decide +kernel) (pa_cons (pv 0) (pa_cons (pe_glob (v := .ref (cm 8)) (by rfl) (T.mgC 8 (by decide)) rfl) pa_nil))) pa_nil))))))
      (pss_cons (ps_set (i := 1) scFlags.nd rfl (.inl rfl) (pe_op op_cat (pv 1) (pe_lst (pa_cons (pe_callB call_isV (by rfl) mi (by decide +kernel) (pa_cons (pv 0) (pa_cons (pe_glob (v := .ref (cm 9)) (by rfl) (T.mgC 9 (by decide)) rfl) pa_nil))) (pa_cons (pe_callB call_isV (by rfl) mi (by decide +kernel) (pa_cons (pv 0) (pa_cons (pe_glob (v := .ref (cm 10)) (by rfl) (T.mgC 10 (by decide)) rfl) pa_nil))) (pa_cons (pe_callB call_isV (by rfl) mi (by decide +kernel) (pa_cons (pv 0) (pa_cons (pe_glob (v := .ref (cm 11)) (by rfl) (T.mgC 11 (by decide)) rfl) pa_nil))) pa_nil))))))
      (pss_cons (ps_set (i := 1) scFlags.nd rfl (.inl rfl) (pe_op op_cat (pv 1) (pe_lst (pa_cons (pe_callB call_isV (by rfl) mi (by decide +kernel) (pa_cons (pv 0) (pa_cons (pe_glob (v := .ref (cm 12)) (by rfl) (T.mgC 12 (by decide)) rfl) pa_nil))) (pa_cons (pe_callB call_isV (by rfl) mi (by decide +kernel) (pa_cons (pv 0) (pa_cons (pe_glob (v := .ref (cm 13)) (by rfl) (T.mgC 13 (by decide)) rfl) pa_nil))) (pa_cons (pe_callB call_isV (by rfl) mi (by decide +kernel) (pa_cons (pv 0) (pa_cons (pe_glob (v := .ref (cm 14)) (by rfl) (T.mgC 14 (by decide)) rfl) pa_nil))) pa_nil))))))
      (pss_cons (ps_set (i := 1) scFlags.nd rfl (.inl rfl) (pe_op op_cat (pv 1) (pe_lst (pa_cons (pe_callB call_isV (by rfl) mi (by decide +kernel) (pa_cons (pv 0) (pa_cons (pe_glob (v := .ref (cm 15)) (by rfl) (T.mgC 15 (by decide)) rfl) pa_nil))) (pa_cons (pe_callB call_isV (by rfl) mi (by decide +kernel) (pa_cons (pv 0) (pa_cons (pe_glob (v := .ref (cm 16)) (by rfl) (T.mgC 16 (by decide)) rfl) pa_nil))) (pa_cons (pe_callB call_isV (by rfl) mi (by decide +kernel) (pa_cons (pv 0) (pa_cons (pe_glob (v := .ref (cm 17)) (by rfl) (T.mgC 17 (by decide)) rfl) pa_nil))) pa_nil))))))
      (pss_cons (ps_set (i := 1) scFlags.nd rfl (.inl rfl) (pe_op op_cat (pv 1) (pe_lst (pa_cons (pe_callB call_isV (by rfl) mi (by decide +kernel) (pa_cons (pv 0) (pa_cons (pe_glob (v := .ref (cm 18)) (by rfl) (T.mgC 18 (by decide)) rfl) pa_nil))) (pa_cons (pe_callB call_isV (by rfl) mi (by decide +kernel) (pa_cons (pv 0) (pa_cons (pe_glob (v := .ref (cm 19)) (by rfl) (T.mgC 19 (by decide)) rfl) pa_nil))) (pa_cons (pe_callB call_isV (by rfl) mi (by decide +kernel) (pa_cons (pv 0) (pa_cons (pe_glob (v := .ref (cm 20)) (by rfl) (T.mgC 20 (by decide)) rfl) pa_nil))) pa_nil))))))
      (pss_cons (ps_set (i := 1) scFlags.nd rfl (.inl rfl) (pe_op op_cat (pv 1) (pe_lst (pa_cons (pe_callB call_isV (by rfl) mi (by decide +kernel) (pa_cons (pv 0) (pa_cons (pe_glob (v := .ref (cm 21)) (by rfl) (T.mgC 21 (by decide)) rfl) pa_nil))) (pa_cons (pe_callB call_isV (by rfl) mi (by decide +kernel) (pa_cons (pv 0) (pa_cons (pe_glob (v := .ref (cm 22)) (by rfl) (T.mgC 22 (by decide)) rfl) pa_nil))) (pa_cons (pe_callB call_isV (by rfl) mi (by decide +kernel) (pa_cons (pv 0) (pa_cons (pe_glob (v := .ref (cm 23)) (by rfl) (T.mgC 23 (by decide)) rfl) pa_nil))) pa_nil))))))
      (pss_cons (ps_set (i := 1) scFlags.nd rfl (.inl rfl) (pe_op op_cat (pv 1) (pe_lst (pa_cons (pe_callB call_isV (by rfl) mi (by decide +kernel) (pa_cons (pv 0) (pa_cons (pe_glob (v := .ref (cm 24)) (by rfl) (T.mgC 24 (by decide)) rfl) pa_nil))) (pa_cons (pe_callB call_isV (by rfl) mi (by decide +kernel) (pa_cons (pv 0) (pa_cons (pe_glob (v := .ref (cm 25)) (by rfl) (T.mgC 25 (by decide)) rfl) pa_nil))) (pa_cons (pe_callB call_isV (by rfl) mi (by decide +kernel) (pa_cons (pv 0) (pa_cons (pe_glob (v := .ref (cm 26)) (by rfl) (T.mgC 26 (by decide)) rfl) pa_nil))) pa_nil))))))
      (pss_cons (ps_set (i := 1) scFlags.nd rfl (.inl rfl) (pe_op op_cat (pv 1) (pe_lst (pa_cons (pe_callB call_isV (by rfl) mi (by decide +kernel) (pa_cons (pv 0) (pa_cons (pe_glob (v := .ref (cm 27)) (by rfl) (T.mgC 27 (by decide)) rfl) pa_nil))) pa_nil))))
      (pss_one (ps_ret (pv 1)))))))))))), ?_⟩
    refine ⟨.ref a, rfl, a, cm i, dx, fs, .ref (cm 0), .ref (cm 0), _, rfl, h1, h2, T.ex i hi, fun u r => r, T.sub i 0 hi (by decide), ?_⟩
    refine ⟨.ref a, rfl, a, cm i, dx, fs, .ref (cm 1), .ref (cm 1), _, rfl, h1, h2, T.ex i hi, fun u r => r, T.sub i 1 hi (by decide), ?_⟩
    refine ⟨.ref a, rfl, a, cm i, dx, fs, .ref (cm 2), .ref (cm 2), _, rfl, h1, h2, T.ex i hi, fun u r => r, T.sub i 2 hi (by decide), ?_⟩
    refine ⟨(show (3 : Nat) ≤ sizeLine by decide), fun p0 n0 => ?_⟩
    have k1 := same_upd (o := .lst [.bl (decide (i = 0)), .bl (decide (i = 1)), .bl (decide (i = 2))]) n0
    have d0 : upd H p0 (.lst [.bl (decide (i = 0)), .bl (decide (i = 1)), .bl (decide (i = 2))]) p0 = some (.lst [.bl (decide (i = 0)), .bl (decide (i = 1)), .bl (decide (i = 2))]) := upd_same
    obtain ⟨rs0, er0, e0⟩ : ∃ rs : List V, rs = [.bl (decide (i = 0)), .bl (decide (i = 1)), .bl (decide (i = 2))] ∧ rs.length = 3 := ⟨_, rfl, rfl⟩
    rw [← er0] at k1 d0 ⊢
    generalize upd H p0 (.lst rs0) = G0 at k1 d0 ⊢
    refine ⟨.ref p0, rfl, ?_⟩
    refine ⟨.ref a, rfl, a, cm i, dx, fs, .ref (cm 3), .ref (cm 3), _, rfl, k1 _ _ h1, k1 _ _ h2, T.ex i hi, fun u r => r, T.sub i 3 hi (by decide), ?_⟩
    refine ⟨.ref a, rfl, a, cm i, dx, fs, .ref (cm 4), .ref (cm 4), _, rfl, k1 _ _ h1, k1 _ _ h2, T.ex i hi, fun u r => r, T.sub i 4 hi (by decide), ?_⟩
    refine ⟨.ref a, rfl, a, cm i, dx, fs, .ref (cm 5), .ref (cm 5), _, rfl, k1 _ _ h1, k1 _ _ h2, T.ex i hi, fun u r => r, T.sub i 5 hi (by decide), ?_⟩
    refine ⟨(show (3 : Nat) ≤ sizeLine by decide), fun l1 m1 => ?_⟩
    have u1 := same_upd (o := .lst [.bl (decide (i = 3)), .bl (decide (i = 4)), .bl (decide (i = 5))]) m1
    refine ⟨p0, l1, _, _, rfl, rfl, u1 _ _ d0, upd_same, (by rw [e0]; exact (show (6 : Nat) ≤ sizeLine by decide)), fun p1 n1 => ?_⟩
    have k2 := (k1.trans u1).trans (same_upd (o := .lst (rs0 ++ [.bl (decide (i = 3)), .bl (decide (i = 4)), .bl (decide (i = 5))])) n1)
    have d1 : upd (upd G0 l1 (.lst [.bl (decide (i = 3)), .bl (decide (i = 4)), .bl (decide (i = 5))])) p1 (.lst (rs0 ++ [.bl (decide (i = 3)), .bl (decide (i = 4)), .bl (decide (i = 5))])) p1 = some (.lst (rs0 ++ [.bl (decide (i = 3)), .bl (decide (i = 4)), .bl (decide (i = 5))])) := upd_same
    obtain ⟨rs1, er1, e1⟩ : ∃ rs : List V, rs = rs0 ++ [.bl (decide (i = 3)), .bl (decide (i = 4)), .bl (decide (i = 5))] ∧ rs.length = 6 := ⟨_, rfl, by simp [e0]⟩
    rw [← er1] at k2 d1 ⊢
    generalize upd (upd G0 l1 (.lst [.bl (decide (i = 3)), .bl (decide (i = 4)), .bl (decide (i = 5))])) p1 (.lst rs1) = G1 at k2 d1 ⊢
    refine ⟨.ref p1, rfl, ?_⟩
    refine ⟨.ref a, rfl, a, cm i, dx, fs, .ref (cm 6), .ref (cm 6), _, rfl, k2 _ _ h1, k2 _ _ h2, T.ex i hi, fun u r => r, T.sub i 6 hi (by decide), ?_⟩
    refine ⟨.ref a, rfl, a, cm i, dx, fs, .ref (cm 7), .ref (cm 7), _, rfl, k2 _ _ h1, k2 _ _ h2, T.ex i hi, fun u r => r, T.sub i 7 hi (by decide), ?_⟩
    refine ⟨.ref a, rfl, a, cm i, dx, fs, .ref (cm 8), .ref (cm 8), _, rfl, k2 _ _ h1, k2 _ _ h2, T.ex i hi, fun u r => r, T.sub i 8 hi (by decide), ?_⟩
    refine ⟨(show (3 : Nat) ≤ sizeLine by decide), fun l2 m2 => ?_⟩
    have u2 := same_upd (o := .lst [.bl (decide (i = 6)), .bl (decide (i = 7)), .bl (decide (i = 8))]) m2
    refine ⟨p1, l2, _, _, rfl, rfl, u2 _ _ d1, upd_same, (by rw [e1]; exact (show (9 : Nat) ≤ sizeLine by decide)), fun p2 n2 => ?_⟩
    have k3 := (k2.trans u2).trans (same_upd (o := .lst (rs1 ++ [.bl (decide (i = 6)), .bl (decide (i = 7)), .bl (decide (i = 8))])) n2)
    have d2 : upd (upd G1 l2 (.lst [.bl (decide (i = 6)), .bl (decide (i = 7)), .bl (decide (i = 8))])) p2 (.lst (rs1 ++ [.bl (decide (i = 6)), .bl (decide (i = 7)), .bl (decide (i = 8))])) p2 = some (.lst (rs1 ++ [.bl (decide (i = 6)), .bl (decide (i = 7)), .bl (decide (i = 8))])) := upd_same
    obtain ⟨rs2, er2, e2⟩ : ∃ rs : List V, rs = rs1 ++ [.bl (decide (i = 6)), .bl (decide (i = 7)), .bl (decide (i = 8))] ∧ rs.length = 9 := ⟨_, rfl, by simp [e1]⟩
    rw [← er2] at k3 d2 ⊢
    generalize upd (upd G1 l2 (.lst [.bl (decide (i = 6)), .bl (decide (i = 7)), .bl (decide (i = 8))])) p2 (.lst rs2) = G2 at k3 d2 ⊢
    refine ⟨.ref p2, rfl, ?_⟩
    refine ⟨.ref a, rfl, a, cm i, dx, fs, .ref (cm 9), .ref (cm 9), _, rfl, k3 _ _ h1, k3 _ _ h2, T.ex i hi, fun u r => r, T.sub i 9 hi (by decide), ?_⟩
    refine ⟨.ref a, rfl, a, cm i, dx, fs, .ref (cm 10), .ref (cm 10), _, rfl, k3 _ _ h1, k3 _ _ h2, T.ex i hi, fun u r => r, T.sub i 10 hi (by decide), ?_⟩
    refine ⟨.ref a, rfl, a, cm i, dx, fs, .ref (cm 11), .ref (cm 11), _, rfl, k3 _ _ h1, k3 _ _ h2, T.ex i hi, fun u r => r, T.sub i 11 hi (by decide), ?_⟩
    refine ⟨(show (3 : Nat) ≤ sizeLine by decide), fun l3 m3 => ?_⟩
    have u3 := same_upd (o := .lst [.bl (decide (i = 9)), .bl (decide (i = 10)), .bl (decide (i = 11))]) m3
    refine ⟨p2, l3, _, _, rfl, rfl, u3 _ _ d2, upd_same, (by rw [e2]; exact (show (12 : Nat) ≤ sizeLine by decide)), fun p3 n3 => ?_⟩
    have k4 := (k3.trans u3).trans (same_upd (o := .lst (rs2 ++ [.bl (decide (i = 9)), .bl (decide (i = 10)), .bl (decide (i = 11))])) n3)
    have d3 : upd (upd G2 l3 (.lst [.bl (decide (i = 9)), .bl (decide (i = 10)), .bl (decide (i = 11))])) p3 (.lst (rs2 ++ [.bl (decide (i = 9)), .bl (decide (i = 10)), .bl (decide (i = 11))])) p3 = some (.lst (rs2 ++ [.bl (decide (i = 9)), .bl (decide (i = 10)), .bl (decide (i = 11))])) := upd_same
    obtain ⟨rs3, er3, e3⟩ : ∃ rs : List V, rs = rs2 ++ [.bl (decide (i = 9)), .bl (decide (i = 10)), .bl (decide (i = 11))] ∧ rs.length = 12 := ⟨_, rfl, by simp [e2]⟩
    rw [← er3] at k4 d3 ⊢
    generalize upd (upd G2 l3 (.lst [.bl (decide (i = 9)), .bl (decide (i = 10)), .bl (decide (i = 11))])) p3 (.lst rs3) = G3 at k4 d3 ⊢
    refine ⟨.ref p3, rfl, ?_⟩
    refine ⟨.ref a, rfl, a, cm i, dx, fs, .ref (cm 12), .ref (cm 12), _, rfl, k4 _ _ h1, k4 _ _ h2, T.ex i hi, fun u r => r, T.sub i 12 hi (by decide), ?_⟩
    refine ⟨.ref a, rfl, a, cm i, dx, fs, .ref (cm 13), .ref (cm 13), _, rfl, k4 _ _ h1, k4 _ _ h2, T.ex i hi, fun u r => r, T.sub i 13 hi (by decide), ?_⟩
    refine ⟨.ref a, rfl, a, cm i, dx, fs, .ref (cm 14), .ref (cm 14), _, rfl, k4 _ _ h1, k4 _ _ h2, T.ex i hi, fun u r => r, T.sub i 14 hi (by decide), ?_⟩
    refine ⟨(show (3 : Nat) ≤ sizeLine by decide), fun l4 m4 => ?_⟩
    have u4 := same_upd (o := .lst [.bl (decide (i = 12)), .bl (decide (i = 13)), .bl (decide (i = 14))]) m4
    refine ⟨p3, l4, _, _, rfl, rfl, u4 _ _ d3, upd_same, (by rw [e3]; exact (show (15 : Nat) ≤ sizeLine by decide)), fun p4 n4 => ?_⟩
    have k5 := (k4.trans u4).trans (same_upd (o := .lst (rs3 ++ [.bl (decide (i = 12)), .bl (decide (i = 13)), .bl (decide (i = 14))])) n4)
    have d4 : upd (upd G3 l4 (.lst [.bl (decide (i = 12)), .bl (decide (i = 13)), .bl (decide (i = 14))])) p4 (.lst (rs3 ++ [.bl (decide (i = 12)), .bl (decide (i = 13)), .bl (decide (i = 14))])) p4 = some (.lst (rs3 ++ [.bl (decide (i = 12)), .bl (decide (i = 13)), .bl (decide (i = 14))])) := upd_same
    obtain ⟨rs4, er4, e4⟩ : ∃ rs : List V, rs = rs3 ++ [.bl (decide (i = 12)), .bl (decide (i = 13)), .bl (decide (i = 14))] ∧ rs.length = 15 := ⟨_, rfl, by simp [e3]⟩
    rw [← er4] at k5 d4 ⊢
    generalize upd (upd G3 l4 (.lst [.bl (decide (i = 12)), .bl (decide (i = 13)), .bl (decide (i = 14))])) p4 (.lst rs4) = G4 at k5 d4 ⊢
    refine ⟨.ref p4, rfl, ?_⟩
    refine ⟨.ref a, rfl, a, cm i, dx, fs, .ref (cm 15), .ref (cm 15), _, rfl, k5 _ _ h1, k5 _ _ h2, T.ex i hi, fun u r => r, T.sub i 15 hi (by decide), ?_⟩
    refine ⟨.ref a, rfl, a, cm i, dx, fs, .ref (cm 16), .ref (cm 16), _, rfl, k5 _ _ h1, k5 _ _ h2, T.ex i hi, fun u r => r, T.sub i 16 hi (by decide), ?_⟩
    refine ⟨.ref a, rfl, a, cm i, dx, fs, .ref (cm 17), .ref (cm 17), _, rfl, k5 _ _ h1, k5 _ _ h2, T.ex i hi, fun u r => r, T.sub i 17 hi (by decide), ?_⟩
    refine ⟨(show (3 : Nat) ≤ sizeLine by decide), fun l5 m5 => ?_⟩
    have u5 := same_upd (o := .lst [.bl (decide (i = 15)), .bl (decide (i = 16)), .bl (decide (i = 17))]) m5
    refine ⟨p4, l5, _, _, rfl, rfl, u5 _ _ d4, upd_same, (by rw [e4]; exact (show (18 : Nat) ≤ sizeLine by decide)), fun p5 n5 => ?_⟩
    have k6 := (k5.trans u5).trans (same_upd (o := .lst (rs4 ++ [.bl (decide (i = 15)), .bl (decide (i = 16)), .bl (decide (i = 17))])) n5)
    have d5 : upd (upd G4 l5 (.lst [.bl (decide (i = 15)), .bl (decide (i = 16)), .bl (decide (i = 17))])) p5 (.lst (rs4 ++ [.bl (decide (i = 15)), .bl (decide (i = 16)), .bl (decide (i = 17))])) p5 = some (.lst (rs4 ++ [.bl (decide (i = 15)), .bl (decide (i = 16)), .bl (decide (i = 17))])) := upd_same
    obtain ⟨rs5, er5, e5⟩ : ∃ rs : List V, rs = rs4 ++ [.bl (decide (i = 15)), .bl (decide (i = 16)), .bl (decide (i = 17))] ∧ rs.length = 18 := ⟨_, rfl, by simp [e4]⟩
    rw [← er5] at k6 d5 ⊢
    generalize upd (upd G4 l5 (.lst [.bl (decide (i = 15)), .bl (decide (i = 16)), .bl (decide (i = 17))])) p5 (.lst rs5) = G5 at k6 d5 ⊢
    refine ⟨.ref p5, rfl, ?_⟩
    refine ⟨.ref a, rfl, a, cm i, dx, fs, .ref (cm 18), .ref (cm 18), _, rfl, k6 _ _ h1, k6 _ _ h2, T.ex i hi, fun u r => r, T.sub i 18 hi (by decide), ?_⟩
    refine ⟨.ref a, rfl, a, cm i, dx, fs, .ref (cm 19), .ref (cm 19), _, rfl, k6 _ _ h1, k6 _ _ h2, T.ex i hi, fun u r => r, T.sub i 19 hi (by decide), ?_⟩
    refine ⟨.ref a, rfl, a, cm i, dx, fs, .ref (cm 20), .ref (cm 20), _, rfl, k6 _ _ h1, k6 _ _ h2, T.ex i hi, fun u r => r, T.sub i 20 hi (by decide), ?_⟩
    refine ⟨(show (3 : Nat) ≤ sizeLine by decide), fun l6 m6 => ?_⟩
    have u6 := same_upd (o := .lst [.bl (decide (i = 18)), .bl (decide (i = 19)), .bl (decide (i = 20))]) m6
    refine ⟨p5, l6, _, _, rfl, rfl, u6 _ _ d5, upd_same, (by rw [e5]; exact (show (21 : Nat) ≤ sizeLine by decide)), fun p6 n6 => ?_⟩
    have k7 := (k6.trans u6).trans (same_upd (o := .lst (rs5 ++ [.bl (decide (i = 18)), .bl (decide (i = 19)), .bl (decide (i = 20))])) n6)
    have d6 : upd (upd G5 l6 (.lst [.bl (decide (i = 18)), .bl (decide (i = 19)), .bl (decide (i = 20))])) p6 (.lst (rs5 ++ [.bl (decide (i = 18)), .bl (decide (i = 19)), .bl (decide (i = 20))])) p6 = some (.lst (rs5 ++ [.bl (decide (i = 18)), .bl (decide (i = 19)), .bl (decide (i = 20))])) := upd_same
    obtain ⟨rs6, er6, e6⟩ : ∃ rs : List V, rs = rs5 ++ [.bl (decide (i = 18)), .bl (decide (i = 19)), .bl (decide (i = 20))] ∧ rs.length = 21 := ⟨_, rfl, by simp [e5]⟩
    rw [← er6] at k7 d6 ⊢
    generalize upd (upd G5 l6 (.lst [.bl (decide (i = 18)), .bl (decide (i = 19)), .bl (decide (i = 20))])) p6 (.lst rs6) = G6 at k7 d6 ⊢
    refine ⟨.ref p6, rfl, ?_⟩
    refine ⟨.ref a, rfl, a, cm i, dx, fs, .ref (cm 21), .ref (cm 21), _, rfl, k7 _ _ h1, k7 _ _ h2, T.ex i hi, fun u r => r, T.sub i 21 hi (by decide), ?_⟩
    refine ⟨.ref a, rfl, a, cm i, dx, fs, .ref (cm 22), .ref (cm 22), _, rfl, k7 _ _ h1, k7 _ _ h2, T.ex i hi, fun u r => r, T.sub i 22 hi (by decide), ?_⟩
    refine ⟨.ref a, rfl, a, cm i, dx, fs, .ref (cm 23), .ref (cm 23), _, rfl, k7 _ _ h1, k7 _ _ h2, T.ex i hi, fun u r => r, T.sub i 23 hi (by decide), ?_⟩
    refine ⟨(show (3 : Nat) ≤ sizeLine by decide), fun l7 m7 => ?_⟩
    have u7 := same_upd (o := .lst [.bl (decide (i = 21)), .bl (decide (i = 22)), .bl (decide (i = 23))]) m7
    refine ⟨p6, l7, _, _, rfl, rfl, u7 _ _ d6, upd_same, (by rw [e6]; exact (show (24 : Nat) ≤ sizeLine by decide)), fun p7 n7 => ?_⟩
    have k8 := (k7.trans u7).trans (same_upd (o := .lst (rs6 ++ [.bl (decide (i = 21)), .bl (decide (i = 22)), .bl (decide (i = 23))])) n7)
    have d7 : upd (upd G6 l7 (.lst [.bl (decide (i = 21)), .bl (decide (i = 22)), .bl (decide (i = 23))])) p7 (.lst (rs6 ++ [.bl (decide (i = 21)), .bl (decide (i = 22)), .bl (decide (i = 23))])) p7 = some (.lst (rs6 ++ [.bl (decide (i = 21)), .bl (decide (i = 22)), .bl (decide (i = 23))])) := upd_same
    obtain ⟨rs7, er7, e7⟩ : ∃ rs : List V, rs = rs6 ++ [.bl (decide (i = 21)), .bl (decide (i = 22)), .bl (decide (i = 23))] ∧ rs.length = 24 := ⟨_, rfl, by simp [e6]⟩
    rw [← er7] at k8 d7 ⊢
    generalize upd (upd G6 l7 (.lst [.bl (decide (i = 21)), .bl (decide (i = 22)), .bl (decide (i = 23))])) p7 (.lst rs7) = G7 at k8 d7 ⊢
    refine ⟨.ref p7, rfl, ?_⟩
    refine ⟨.ref a, rfl, a, cm i, dx, fs, .ref (cm 24), .ref (cm 24), _, rfl, k8 _ _ h1, k8 _ _ h2, T.ex i hi, fun u r => r, T.sub i 24 hi (by decide), ?_⟩
    refine ⟨.ref a, rfl, a, cm i, dx, fs, .ref (cm 25), .ref (cm 25), _, rfl, k8 _ _ h1, k8 _ _ h2, T.ex i hi, fun u r => r, T.sub i 25 hi (by decide), ?_⟩
    refine ⟨.ref a, rfl, a, cm i, dx, fs, .ref (cm 26), .ref (cm 26), _, rfl, k8 _ _ h1, k8 _ _ h2, T.ex i hi, fun u r => r, T.sub i 26 hi (by decide), ?_⟩
    refine ⟨(show (3 : Nat) ≤ sizeLine by decide), fun l8 m8 => ?_⟩
    have u8 := same_upd (o := .lst [.bl (decide (i = 24)), .bl (decide (i = 25)), .bl (decide (i = 26))]) m8
    refine ⟨p7, l8, _, _, rfl, rfl, u8 _ _ d7, upd_same, (by rw [e7]; exact (show (27 : Nat) ≤ sizeLine by decide)), fun p8 n8 => ?_⟩
    have k9 := (k8.trans u8).trans (same_upd (o := .lst (rs7 ++ [.bl (decide (i = 24)), .bl (decide (i = 25)), .bl (decide (i = 26))])) n8)
    have d8 : upd (upd G7 l8 (.lst [.bl (decide (i = 24)), .bl (decide (i = 25)), .bl (decide (i = 26))])) p8 (.lst (rs7 ++ [.bl (decide (i = 24)), .bl (decide (i = 25)), .bl (decide (i = 26))])) p8 = some (.lst (rs7 ++ [.bl (decide (i = 24)), .bl (decide (i = 25)), .bl (decide (i = 26))])) := upd_same
    obtain ⟨rs8, er8, e8⟩ : ∃ rs : List V, rs = rs7 ++ [.bl (decide (i = 24)), .bl (decide (i = 25)), .bl (decide (i = 26))] ∧ rs.length = 27 := ⟨_, rfl, by simp [e7]⟩
    rw [← er8] at k9 d8 ⊢
    generalize upd (upd G7 l8 (.lst [.bl (decide (i = 24)), .bl (decide (i = 25)), .bl (decide (i = 26))])) p8 (.lst rs8) = G8 at k9 d8 ⊢
    refine ⟨.ref p8, rfl, ?_⟩
    refine ⟨.ref a, rfl, a, cm i, dx, fs, .ref (cm 27), .ref (cm 27), _, rfl, k9 _ _ h1, k9 _ _ h2, T.ex i hi, fun u r => r, T.sub i 27 hi (by decide), ?_⟩
    refine ⟨(show (1 : Nat) ≤ sizeLine by decide), fun l9 m9 => ?_⟩
    have u9 := same_upd (o := .lst [.bl (decide (i = 27))]) m9
    refine ⟨p8, l9, _, _, rfl, rfl, u9 _ _ d8, upd_same, (by rw [e8]; exact (show (28 : Nat) ≤ sizeLine by decide)), fun p9 n9 => ?_⟩
    have k10 := (k9.trans u9).trans (same_upd (o := .lst (rs8 ++ [.bl (decide (i = 27))])) n9)
    have d9 : upd (upd G8 l9 (.lst [.bl (decide (i = 27))])) p9 (.lst (rs8 ++ [.bl (decide (i = 27))])) p9 = some (.lst (rs8 ++ [.bl (decide (i = 27))])) := upd_same
    obtain ⟨rs9, er9, e9⟩ : ∃ rs : List V, rs = rs8 ++ [.bl (decide (i = 27))] ∧ rs.length = 28 := ⟨_, rfl, by simp [e8]⟩
    rw [← er9] at k10 d9 ⊢
    generalize upd (upd G8 l9 (.lst [.bl (decide (i = 27))])) p9 (.lst rs9) = G9 at k10 d9 ⊢
    have ef : rs9 = flagsV i := by
      rw [er9, er8, er7, er6, er5, er4, er3, er2, er1, er0]
      rfl
    rw [ef] at d9
    exact ⟨.ref p9, rfl, q G9 p9 k10 d9⟩
end
/-! ### _law_kin -/
abbrev sKin : Stmt := topS 38
theorem scKin : FnScope ["_law_e", "_law_found"] ["_law_e"] (defScope sKin) := ⟨rfl, rfl, rfl, by decide +kernel, rfl, by decide +kernel, by decide +kernel⟩
/-- what the classes tell of their bases -/
structure KinB (K : PySem.W.Frag) (mg : Str → Option Value) (cm : Nat → Addr) (cT cM cS : Addr) : Prop where
  mT : mg "TearError" = some (.ref cT)
  mM : mg "Missing" = some (.ref cM)
  mS : mg "Stuck" = some (.ref cS)
  mV : mg "ValueError" = none
  mL : mg "LookupError" = none
  mR : mg "RuntimeError" = none
  t : ∀ i, i < 28 → PySem.W.kitOne K (.ref (cm i)) (.ref cT) = some (decide (i < 23)) ∧ PySem.W.kitOne K (.ref (cm i)) (.ref cM) = some (decide (23 ≤ i) && decide (i < 26)) ∧ PySem.W.kitOne K (.ref (cm i)) (.ref cS) = some (decide (25 < i)) ∧
    PySem.W.kitOne K (.ref (cm i)) (.type "ValueError") = some (decide (i < 23)) ∧ PySem.W.kitOne K (.ref (cm i)) (.type "LookupError") = some (decide (23 ≤ i) && decide (i < 26)) ∧ PySem.W.kitOne K (.ref (cm i)) (.type "RuntimeError") = some (decide (25 < i))
def kinV (i : Nat) : List V := [.bl (decide (i < 23)), .bl (decide (23 ≤ i) && decide (i < 26)), .bl (decide (25 < i)), .bl (decide (i < 23)), .bl (decide (23 ≤ i) && decide (i < 26)), .bl (decide (25 < i))]
def spKin (cm : Nat → Addr) : Sp := fun vs H Q _ => ∃ (v : V) (i : Nat) (fs : List (Str × V)), vs = [v] ∧ i < 28 ∧ RefAt H v (cm i) fs ∧ ∀ H' p, Same H H' → H' p = some (.lst (kinV i)) → Q (.ref p) H'
section
variable {P : Program} {w : World} {K : PySem.W.Frag} {mg : Str → Option Value} {base : Heap}
theorem ok_kin {f cT cM cS : Addr} {fd : FuncData} {k : Nat} {cm : Nat → Addr} (F : Fun K "_law_kin" "_law_kin" sKin f fd) (mi : mg "isinstance" = none) (T : KinT K mg cm) (B : KinB K mg cm cT cM cS) : FnOk P w K mg base CX0 (k + 1) f fd ["_law_e"] (spKin cm) := by
  refine F.ok scKin (fun vs H Q E h => ?_) (fun cdv A outer s H vs Q E hr h => ?_)
  · obtain ⟨v, i, fs, rfl, _⟩ := h
    rfl
  · obtain ⟨v, i, fs, rfl, hi, ⟨a, dx, rfl, h1, h2⟩, q⟩ := h
    obtain ⟨t1, t2, t3, t4, t5, t6⟩ := B.t i hi
    refine ⟨_, pss_cons (ps_set (i := 1) scKin.nd rfl (.inl rfl) (pe_lst (pa_cons (pe_callB call_isV (by rfl) mi (by decide +kernel) (pa_cons (pv 0) (pa_cons (pe_glob (v := .ref cT) (by rfl) B.mT rfl) pa_nil)))
        (pa_cons (pe_callB call_isV (by rfl) mi (by decide +kernel) (pa_cons (pv 0) (pa_cons (pe_glob (v := .ref cM) (by rfl) B.mM rfl) pa_nil))) (pa_cons (pe_callB call_isV (by rfl) mi (by decide +kernel) (pa_cons (pv 0) (pa_cons (pe_glob (v := .ref cS) (by rfl) B.mS rfl) pa_nil))) pa_nil)))))
      (pss_one (ps_ret (pe_op op_cat (pv 1) (pe_lst (pa_cons (pe_callB call_isV (by rfl) mi (by decide +kernel) (pa_cons (pv 0) (pa_cons (pe_bltn (v := .ty "ValueError") (by rfl) B.mV (by decide +kernel) rfl) pa_nil)))
        (pa_cons (pe_callB call_isV (by rfl) mi (by decide +kernel) (pa_cons (pv 0) (pa_cons (pe_bltn (v := .ty "LookupError") (by rfl) B.mL (by decide +kernel) rfl) pa_nil))) (pa_cons (pe_callB call_isV (by rfl) mi (by decide +kernel) (pa_cons (pv 0) (pa_cons (pe_bltn (v := .ty "RuntimeError") (by rfl) B.mR (by decide +kernel) rfl) pa_nil))) pa_nil))))))), ?_⟩
    refine ⟨.ref a, rfl, a, cm i, dx, fs, .ref cT, .ref cT, _, rfl, h1, h2, T.ex i hi, fun u r => r, t1, ?_⟩
    refine ⟨.ref a, rfl, a, cm i, dx, fs, .ref cM, .ref cM, _, rfl, h1, h2, T.ex i hi, fun u r => r, t2, ?_⟩
    refine ⟨.ref a, rfl, a, cm i, dx, fs, .ref cS, .ref cS, _, rfl, h1, h2, T.ex i hi, fun u r => r, t3, ?_⟩
    refine ⟨(show (3 : Nat) ≤ sizeLine by decide), fun p0 n0 => ?_⟩
    have k1 := same_upd (o := .lst [.bl (decide (i < 23)), .bl (decide (23 ≤ i) && decide (i < 26)), V.bl (decide (25 < i))]) n0
    refine ⟨.ref p0, rfl, ?_⟩
    refine ⟨.ref a, rfl, a, cm i, dx, fs, .ty "ValueError", .type "ValueError", _, rfl, k1 _ _ h1, k1 _ _ h2, T.ex i hi, fun u r => r, t4, ?_⟩
    refine ⟨.ref a, rfl, a, cm i, dx, fs, .ty "LookupError", .type "LookupError", _, rfl, k1 _ _ h1, k1 _ _ h2, T.ex i hi, fun u r => r, t5, ?_⟩
    refine ⟨.ref a, rfl, a, cm i, dx, fs, .ty "RuntimeError", .type "RuntimeError", _, rfl, k1 _ _ h1, k1 _ _ h2, T.ex i hi, fun u r => r, t6, ?_⟩
    refine ⟨(show (3 : Nat) ≤ sizeLine by decide), fun l1 m1 => ?_⟩
    have u1 := same_upd (o := .lst [.bl (decide (i < 23)), .bl (decide (23 ≤ i) && decide (i < 26)), V.bl (decide (25 < i))]) m1
    refine ⟨p0, l1, _, _, rfl, rfl, u1 _ _ upd_same, upd_same, (show (6 : Nat) ≤ sizeLine by decide), fun p1 n1 => ?_⟩
    exact q _ p1 ((k1.trans u1).trans (same_upd n1)) upd_same
end
/-! ### _law_values -/
abbrev sVals : Stmt := topS 39
theorem scVals : FnScope ["_law_e"] ["_law_e"] (defScope sVals) := ⟨rfl, rfl, rfl, by decide +kernel, rfl, by decide +kernel, by decide +kernel⟩
theorem KinT.any {K : PySem.W.Frag} {mg : Str → Option Value} {cm : Nat → Addr} (T : KinT K mg cm) {i : Nat} (hi : i < 28) : ∀ (js : List Nat), (∀ j ∈ js, j < 28) → PySem.W.kitAny K (.ref (cm i)) (js.map fun j => .ref (cm j)) = some (js.any fun j => decide (i = j)) := by
  intro js
  induction js with
  | nil => exact fun _ => rfl
  | cons j r ih =>
    intro h
    have a := T.sub i j hi (h j (List.mem_cons_self ..))
    have b := ih fun x hx => h x (List.mem_cons_of_mem _ hx)
    show PySem.W.kitAny K (.ref (cm i)) (.ref (cm j) :: r.map fun j => .ref (cm j)) = _
    unfold PySem.W.kitAny
    rw [a, b, List.any_cons]
    cases decide (i = j) <;> rfl
theorem vals_refs (cm : Nat → Addr) : ∀ (js : List Nat) (us : List Value), Vals (js.map fun j => V.ref (cm j)) us → us = js.map fun j => Value.ref (cm j)
  | [], us, h => by cases h; rfl
  | j :: r, us, h => by
    cases h with
    | cons h1 h2 =>
      have e := vals_refs cm r _ h2
      cases h1
      rw [e]
      rfl
/-- what is read of the classes' fields -/
structure FldT (K : PySem.W.Frag) (cm : Nat → Addr) : Prop where
  xf : ∀ i, i < 28 → XfC K (cm i)
  nw : ∀ i, i < 28 → ∀ f ∈ ("word" : Str) :: rFl i, PySem.W.findIn K (.ref (cm i)) f = some none
def spVals (cm : Nat → Addr) : Sp := fun vs H Q _ => ∃ (v : V) (i : Nat) (ws : List V), vs = [v] ∧ i < 28 ∧ RefAt H v (cm i) (rFs i ws) ∧ ws.length = (rFl i).length ∧ ∀ H' p, Same H H' → H' p = some (.lst ws) → Q (.ref p) H'
section
variable {P : Program} {w : World} {K : PySem.W.Frag} {mg : Str → Option Value} {base : Heap}
theorem ok_vals {f : Addr} {fd : FuncData} {k : Nat} {cm : Nat → Addr} (F : Fun K "_law_values" "_law_values" sVals f fd) (mi : mg "isinstance" = none) (T : KinT K mg cm) (B : FldT K cm) : FnOk P w K mg base CX0 (k + 1) f fd ["_law_e"] (spVals cm) := by
  refine F.ok scVals (fun vs H Q E h => ?_) (fun cdv A outer s H vs Q E hr h => ?_)
  · obtain ⟨v, i, ws, rfl, _⟩ := h
    rfl
  · obtain ⟨v, i, ws, rfl, hi, ⟨a, dx, rfl, h1, h2⟩, hl, q⟩ := h
    refine ⟨_, pss_cons (ps_if (pt_val (pe_callB call_isVT (by rfl) mi (by decide +kernel) (pa_cons (pv 0) (pa_cons (pe_tup (pa_cons (pe_glob (v := .ref (cm 0)) (by rfl) (T.mgC 0 (by decide)) rfl) (pa_cons (pe_glob (v := .ref (cm 1)) (by rfl) (T.mgC 1 (by decide)) rfl) (pa_cons (pe_glob (v := .ref (cm 8)) (by rfl) (T.mgC 8 (by decide)) rfl) (pa_cons (pe_glob (v := .ref (cm 19)) (by rfl) (T.mgC 19 (by decide)) rfl) (pa_cons (pe_glob (v := .ref (cm 20)) (by rfl) (T.mgC 20 (by decide)) rfl) (pa_cons (pe_glob (v := .ref (cm 22)) (by rfl) (T.mgC 22 (by decide)) rfl) pa_nil))))))) pa_nil)))) (pss_one (ps_ret (pe_lst (pa_cons (pe_fldV (pv 0)) pa_nil)))) pss_nil)
      (pss_cons (ps_if (pt_val (pe_callB call_isV (by rfl) mi (by decide +kernel) (pa_cons (pv 0) (pa_cons (pe_glob (v := .ref (cm 2)) (by rfl) (T.mgC 2 (by decide)) rfl) pa_nil)))) (pss_one (ps_ret (pe_lst (pa_cons (pe_fldV (pv 0)) (pa_cons (pe_fldV (pv 0)) pa_nil))))) pss_nil)
      (pss_cons (ps_if (pt_val (pe_callB call_isVT (by rfl) mi (by decide +kernel) (pa_cons (pv 0) (pa_cons (pe_tup (pa_cons (pe_glob (v := .ref (cm 3)) (by rfl) (T.mgC 3 (by decide)) rfl) (pa_cons (pe_glob (v := .ref (cm 4)) (by rfl) (T.mgC 4 (by decide)) rfl) pa_nil))) pa_nil)))) (pss_one (ps_ret (pe_lst (pa_cons (pe_fldV (pv 0)) pa_nil)))) pss_nil)
      (pss_cons (ps_if (pt_val (pe_callB call_isV (by rfl) mi (by decide +kernel) (pa_cons (pv 0) (pa_cons (pe_glob (v := .ref (cm 9)) (by rfl) (T.mgC 9 (by decide)) rfl) pa_nil)))) (pss_one (ps_ret (pe_lst (pa_cons (pe_fldV (pv 0)) pa_nil)))) pss_nil)
      (pss_cons (ps_if (pt_val (pe_callB call_isVT (by rfl) mi (by decide +kernel) (pa_cons (pv 0) (pa_cons (pe_tup (pa_cons (pe_glob (v := .ref (cm 11)) (by rfl) (T.mgC 11 (by decide)) rfl) (pa_cons (pe_glob (v := .ref (cm 12)) (by rfl) (T.mgC 12 (by decide)) rfl) (pa_cons (pe_glob (v := .ref (cm 14)) (by rfl) (T.mgC 14 (by decide)) rfl) (pa_cons (pe_glob (v := .ref (cm 18)) (by rfl) (T.mgC 18 (by decide)) rfl) (pa_cons (pe_glob (v := .ref (cm 23)) (by rfl) (T.mgC 23 (by decide)) rfl) pa_nil)))))) pa_nil)))) (pss_one (ps_ret (pe_lst (pa_cons (pe_fldV (pv 0)) pa_nil)))) pss_nil)
      (pss_cons (ps_if (pt_val (pe_callB call_isVT (by rfl) mi (by decide +kernel) (pa_cons (pv 0) (pa_cons (pe_tup (pa_cons (pe_glob (v := .ref (cm 13)) (by rfl) (T.mgC 13 (by decide)) rfl) (pa_cons (pe_glob (v := .ref (cm 24)) (by rfl) (T.mgC 24 (by decide)) rfl) pa_nil))) pa_nil)))) (pss_one (ps_ret (pe_lst (pa_cons (pe_fldV (pv 0)) pa_nil)))) pss_nil)
      (pss_cons (ps_if (pt_val (pe_callB call_isV (by rfl) mi (by decide +kernel) (pa_cons (pv 0) (pa_cons (pe_glob (v := .ref (cm 16)) (by rfl) (T.mgC 16 (by decide)) rfl) pa_nil)))) (pss_one (ps_ret (pe_lst (pa_cons (pe_fldV (pv 0)) pa_nil)))) pss_nil)
      (pss_one (ps_ret (pe_ifExp (pt_val (pe_callB call_isV (by rfl) mi (by decide +kernel) (pa_cons (pv 0) (pa_cons (pe_glob (v := .ref (cm 25)) (by rfl) (T.mgC 25 (by decide)) rfl) pa_nil)))) (pe_lst (pa_cons (pe_fldV (pv 0)) pa_nil)) (pe_lst pa_nil)))))))))), ?_⟩
    match i, hi with
    | 0, _ =>
      obtain ⟨y0, rfl⟩ := ws_1 hl
      refine ⟨.ref a, rfl, (show (6 : Nat) ≤ sizeLine by decide), fun t0 m0 => ?_⟩
      have z0 := same_upd (o := .tup ([0, 1, 8, 19, 20, 22].map fun j => V.ref (cm j))) m0
      refine ⟨a, cm 0, dx, t0, _, _, _, true, rfl, z0 _ _ h1, z0 _ _ h2, T.ex 0 (by decide), upd_same, vals_refs cm [0, 1, 8, 19, 20, 22], T.any (i := 0) (by decide) [0, 1, 8, 19, 20, 22] (by decide), _, rfl, iteT ?_⟩
      exact ⟨.ref a, rfl, a, cm 0, dx, _, _, rfl, (z0) _ _ h1, (z0) _ _ h2, B.xf 0 (by decide), B.nw 0 (by decide) _ (by decide), rfl, (show (1 : Nat) ≤ sizeLine by decide), fun p np => q _ p ((z0).trans (same_upd np)) upd_same⟩
    | 1, _ =>
      obtain ⟨y0, rfl⟩ := ws_1 hl
      refine ⟨.ref a, rfl, (show (6 : Nat) ≤ sizeLine by decide), fun t0 m0 => ?_⟩
      have z0 := same_upd (o := .tup ([0, 1, 8, 19, 20, 22].map fun j => V.ref (cm j))) m0
      refine ⟨a, cm 1, dx, t0, _, _, _, true, rfl, z0 _ _ h1, z0 _ _ h2, T.ex 1 (by decide), upd_same, vals_refs cm [0, 1, 8, 19, 20, 22], T.any (i := 1) (by decide) [0, 1, 8, 19, 20, 22] (by decide), _, rfl, iteT ?_⟩
      exact ⟨.ref a, rfl, a, cm 1, dx, _, _, rfl, (z0) _ _ h1, (z0) _ _ h2, B.xf 1 (by decide), B.nw 1 (by decide) _ (by decide), rfl, (show (1 : Nat) ≤ sizeLine by decide), fun p np => q _ p ((z0).trans (same_upd np)) upd_same⟩
    | 2, _ =>
      obtain ⟨y0, y1, rfl⟩ := ws_2 hl
      refine ⟨.ref a, rfl, (show (6 : Nat) ≤ sizeLine by decide), fun t0 m0 => ?_⟩
      have z0 := same_upd (o := .tup ([0, 1, 8, 19, 20, 22].map fun j => V.ref (cm j))) m0
      refine ⟨a, cm 2, dx, t0, _, _, _, false, rfl, z0 _ _ h1, z0 _ _ h2, T.ex 2 (by decide), upd_same, vals_refs cm [0, 1, 8, 19, 20, 22], T.any (i := 2) (by decide) [0, 1, 8, 19, 20, 22] (by decide), _, rfl, iteF ?_⟩
      refine ⟨.ref a, rfl, a, cm 2, dx, _, .ref (cm 2), .ref (cm 2), true, rfl, z0 _ _ h1, z0 _ _ h2, T.ex 2 (by decide), fun u r => r, T.sub 2 2 (by decide) (by decide), _, rfl, iteT ?_⟩
      exact ⟨.ref a, rfl, a, cm 2, dx, _, _, rfl, (z0) _ _ h1, (z0) _ _ h2, B.xf 2 (by decide), B.nw 2 (by decide) _ (by decide), rfl, .ref a, rfl, a, cm 2, dx, _, _, rfl, (z0) _ _ h1, (z0) _ _ h2, B.xf 2 (by decide), B.nw 2 (by decide) _ (by decide), rfl, (show (2 : Nat) ≤ sizeLine by decide), fun p np => q _ p ((z0).trans (same_upd np)) upd_same⟩
    | 3, _ =>
      obtain ⟨y0, rfl⟩ := ws_1 hl
      refine ⟨.ref a, rfl, (show (6 : Nat) ≤ sizeLine by decide), fun t0 m0 => ?_⟩
      have z0 := same_upd (o := .tup ([0, 1, 8, 19, 20, 22].map fun j => V.ref (cm j))) m0
      refine ⟨a, cm 3, dx, t0, _, _, _, false, rfl, z0 _ _ h1, z0 _ _ h2, T.ex 3 (by decide), upd_same, vals_refs cm [0, 1, 8, 19, 20, 22], T.any (i := 3) (by decide) [0, 1, 8, 19, 20, 22] (by decide), _, rfl, iteF ?_⟩
      refine ⟨.ref a, rfl, a, cm 3, dx, _, .ref (cm 2), .ref (cm 2), false, rfl, z0 _ _ h1, z0 _ _ h2, T.ex 3 (by decide), fun u r => r, T.sub 3 2 (by decide) (by decide), _, rfl, iteF ?_⟩
      refine ⟨.ref a, rfl, (show (2 : Nat) ≤ sizeLine by decide), fun t2 m2 => ?_⟩
      have z2 := same_upd (o := .tup ([3, 4].map fun j => V.ref (cm j))) m2
      refine ⟨a, cm 3, dx, t2, _, _, _, true, rfl, (z0.trans z2) _ _ h1, (z0.trans z2) _ _ h2, T.ex 3 (by decide), upd_same, vals_refs cm [3, 4], T.any (i := 3) (by decide) [3, 4] (by decide), _, rfl, iteT ?_⟩
      exact ⟨.ref a, rfl, a, cm 3, dx, _, _, rfl, ((z0.trans z2)) _ _ h1, ((z0.trans z2)) _ _ h2, B.xf 3 (by decide), B.nw 3 (by decide) _ (by decide), rfl, (show (1 : Nat) ≤ sizeLine by decide), fun p np => q _ p (((z0.trans z2)).trans (same_upd np)) upd_same⟩
    | 4, _ =>
      obtain ⟨y0, rfl⟩ := ws_1 hl
      refine ⟨.ref a, rfl, (show (6 : Nat) ≤ sizeLine by decide), fun t0 m0 => ?_⟩
      have z0 := same_upd (o := .tup ([0, 1, 8, 19, 20, 22].map fun j => V.ref (cm j))) m0
      refine ⟨a, cm 4, dx, t0, _, _, _, false, rfl, z0 _ _ h1, z0 _ _ h2, T.ex 4 (by decide), upd_same, vals_refs cm [0, 1, 8, 19, 20, 22], T.any (i := 4) (by decide) [0, 1, 8, 19, 20, 22] (by decide), _, rfl, iteF ?_⟩
      refine ⟨.ref a, rfl, a, cm 4, dx, _, .ref (cm 2), .ref (cm 2), false, rfl, z0 _ _ h1, z0 _ _ h2, T.ex 4 (by decide), fun u r => r, T.sub 4 2 (by decide) (by decide), _, rfl, iteF ?_⟩
      refine ⟨.ref a, rfl, (show (2 : Nat) ≤ sizeLine by decide), fun t2 m2 => ?_⟩
      have z2 := same_upd (o := .tup ([3, 4].map fun j => V.ref (cm j))) m2
      refine ⟨a, cm 4, dx, t2, _, _, _, true, rfl, (z0.trans z2) _ _ h1, (z0.trans z2) _ _ h2, T.ex 4 (by decide), upd_same, vals_refs cm [3, 4], T.any (i := 4) (by decide) [3, 4] (by decide), _, rfl, iteT ?_⟩
      exact ⟨.ref a, rfl, a, cm 4, dx, _, _, rfl, ((z0.trans z2)) _ _ h1, ((z0.trans z2)) _ _ h2, B.xf 4 (by decide), B.nw 4 (by decide) _ (by decide), rfl, (show (1 : Nat) ≤ sizeLine by decide), fun p np => q _ p (((z0.trans z2)).trans (same_upd np)) upd_same⟩
    | 5, _ =>
      obtain rfl := ws_0 hl
      refine ⟨.ref a, rfl, (show (6 : Nat) ≤ sizeLine by decide), fun t0 m0 => ?_⟩
      have z0 := same_upd (o := .tup ([0, 1, 8, 19, 20, 22].map fun j => V.ref (cm j))) m0
      refine ⟨a, cm 5, dx, t0, _, _, _, false, rfl, z0 _ _ h1, z0 _ _ h2, T.ex 5 (by decide), upd_same, vals_refs cm [0, 1, 8, 19, 20, 22], T.any (i := 5) (by decide) [0, 1, 8, 19, 20, 22] (by decide), _, rfl, iteF ?_⟩
      refine ⟨.ref a, rfl, a, cm 5, dx, _, .ref (cm 2), .ref (cm 2), false, rfl, z0 _ _ h1, z0 _ _ h2, T.ex 5 (by decide), fun u r => r, T.sub 5 2 (by decide) (by decide), _, rfl, iteF ?_⟩
      refine ⟨.ref a, rfl, (show (2 : Nat) ≤ sizeLine by decide), fun t2 m2 => ?_⟩
      have z2 := same_upd (o := .tup ([3, 4].map fun j => V.ref (cm j))) m2
      refine ⟨a, cm 5, dx, t2, _, _, _, false, rfl, (z0.trans z2) _ _ h1, (z0.trans z2) _ _ h2, T.ex 5 (by decide), upd_same, vals_refs cm [3, 4], T.any (i := 5) (by decide) [3, 4] (by decide), _, rfl, iteF ?_⟩
      refine ⟨.ref a, rfl, a, cm 5, dx, _, .ref (cm 9), .ref (cm 9), false, rfl, (z0.trans z2) _ _ h1, (z0.trans z2) _ _ h2, T.ex 5 (by decide), fun u r => r, T.sub 5 9 (by decide) (by decide), _, rfl, iteF ?_⟩
      refine ⟨.ref a, rfl, (show (5 : Nat) ≤ sizeLine by decide), fun t4 m4 => ?_⟩
      have z4 := same_upd (o := .tup ([11, 12, 14, 18, 23].map fun j => V.ref (cm j))) m4
      refine ⟨a, cm 5, dx, t4, _, _, _, false, rfl, ((z0.trans z2).trans z4) _ _ h1, ((z0.trans z2).trans z4) _ _ h2, T.ex 5 (by decide), upd_same, vals_refs cm [11, 12, 14, 18, 23], T.any (i := 5) (by decide) [11, 12, 14, 18, 23] (by decide), _, rfl, iteF ?_⟩
      refine ⟨.ref a, rfl, (show (2 : Nat) ≤ sizeLine by decide), fun t5 m5 => ?_⟩
      have z5 := same_upd (o := .tup ([13, 24].map fun j => V.ref (cm j))) m5
      refine ⟨a, cm 5, dx, t5, _, _, _, false, rfl, (((z0.trans z2).trans z4).trans z5) _ _ h1, (((z0.trans z2).trans z4).trans z5) _ _ h2, T.ex 5 (by decide), upd_same, vals_refs cm [13, 24], T.any (i := 5) (by decide) [13, 24] (by decide), _, rfl, iteF ?_⟩
      refine ⟨.ref a, rfl, a, cm 5, dx, _, .ref (cm 16), .ref (cm 16), false, rfl, (((z0.trans z2).trans z4).trans z5) _ _ h1, (((z0.trans z2).trans z4).trans z5) _ _ h2, T.ex 5 (by decide), fun u r => r, T.sub 5 16 (by decide) (by decide), _, rfl, iteF ?_⟩
      refine ⟨.ref a, rfl, a, cm 5, dx, _, .ref (cm 25), .ref (cm 25), false, rfl, (((z0.trans z2).trans z4).trans z5) _ _ h1, (((z0.trans z2).trans z4).trans z5) _ _ h2, T.ex 5 (by decide), fun u r => r, T.sub 5 25 (by decide) (by decide), _, rfl, iteF ?_⟩
      exact ⟨(show (0 : Nat) ≤ sizeLine by decide), fun p np => q _ p (((((z0.trans z2).trans z4).trans z5)).trans (same_upd np)) upd_same⟩
    | 6, _ =>
      obtain rfl := ws_0 hl
      refine ⟨.ref a, rfl, (show (6 : Nat) ≤ sizeLine by decide), fun t0 m0 => ?_⟩
      have z0 := same_upd (o := .tup ([0, 1, 8, 19, 20, 22].map fun j => V.ref (cm j))) m0
      refine ⟨a, cm 6, dx, t0, _, _, _, false, rfl, z0 _ _ h1, z0 _ _ h2, T.ex 6 (by decide), upd_same, vals_refs cm [0, 1, 8, 19, 20, 22], T.any (i := 6) (by decide) [0, 1, 8, 19, 20, 22] (by decide), _, rfl, iteF ?_⟩
      refine ⟨.ref a, rfl, a, cm 6, dx, _, .ref (cm 2), .ref (cm 2), false, rfl, z0 _ _ h1, z0 _ _ h2, T.ex 6 (by decide), fun u r => r, T.sub 6 2 (by decide) (by decide), _, rfl, iteF ?_⟩
      refine ⟨.ref a, rfl, (show (2 : Nat) ≤ sizeLine by decide), fun t2 m2 => ?_⟩
      have z2 := same_upd (o := .tup ([3, 4].map fun j => V.ref (cm j))) m2
      refine ⟨a, cm 6, dx, t2, _, _, _, false, rfl, (z0.trans z2) _ _ h1, (z0.trans z2) _ _ h2, T.ex 6 (by decide), upd_same, vals_refs cm [3, 4], T.any (i := 6) (by decide) [3, 4] (by decide), _, rfl, iteF ?_⟩
      refine ⟨.ref a, rfl, a, cm 6, dx, _, .ref (cm 9), .ref (cm 9), false, rfl, (z0.trans z2) _ _ h1, (z0.trans z2) _ _ h2, T.ex 6 (by decide), fun u r => r, T.sub 6 9 (by decide) (by decide), _, rfl, iteF ?_⟩
      refine ⟨.ref a, rfl, (show (5 : Nat) ≤ sizeLine by decide), fun t4 m4 => ?_⟩
      have z4 := same_upd (o := .tup ([11, 12, 14, 18, 23].map fun j => V.ref (cm j))) m4
      refine ⟨a, cm 6, dx, t4, _, _, _, false, rfl, ((z0.trans z2).trans z4) _ _ h1, ((z0.trans z2).trans z4) _ _ h2, T.ex 6 (by decide), upd_same, vals_refs cm [11, 12, 14, 18, 23], T.any (i := 6) (by decide) [11, 12, 14, 18, 23] (by decide), _, rfl, iteF ?_⟩
      refine ⟨.ref a, rfl, (show (2 : Nat) ≤ sizeLine by decide), fun t5 m5 => ?_⟩
      have z5 := same_upd (o := .tup ([13, 24].map fun j => V.ref (cm j))) m5
      refine ⟨a, cm 6, dx, t5, _, _, _, false, rfl, (((z0.trans z2).trans z4).trans z5) _ _ h1, (((z0.trans z2).trans z4).trans z5) _ _ h2, T.ex 6 (by decide), upd_same, vals_refs cm [13, 24], T.any (i := 6) (by decide) [13, 24] (by decide), _, rfl, iteF ?_⟩
      refine ⟨.ref a, rfl, a, cm 6, dx, _, .ref (cm 16), .ref (cm 16), false, rfl, (((z0.trans z2).trans z4).trans z5) _ _ h1, (((z0.trans z2).trans z4).trans z5) _ _ h2, T.ex 6 (by decide), fun u r => r, T.sub 6 16 (by decide) (by decide), _, rfl, iteF ?_⟩
      refine ⟨.ref a, rfl, a, cm 6, dx, _, .ref (cm 25), .ref (cm 25), false, rfl, (((z0.trans z2).trans z4).trans z5) _ _ h1, (((z0.trans z2).trans z4).trans z5) _ _ h2, T.ex 6 (by decide), fun u r => r, T.sub 6 25 (by decide) (by decide), _, rfl, iteF ?_⟩
      exact ⟨(show (0 : Nat) ≤ sizeLine by decide), fun p np => q _ p (((((z0.trans z2).trans z4).trans z5)).trans (same_upd np)) upd_same⟩
    | 7, _ =>
      obtain rfl := ws_0 hl
      refine ⟨.ref a, rfl, (show (6 : Nat) ≤ sizeLine by decide), fun t0 m0 => ?_⟩
      have z0 := same_upd (o := .tup ([0, 1, 8, 19, 20, 22].map fun j => V.ref (cm j))) m0
      refine ⟨a, cm 7, dx, t0, _, _, _, false, rfl, z0 _ _ h1, z0 _ _ h2, T.ex 7 (by decide), upd_same, vals_refs cm [0, 1, 8, 19, 20, 22], T.any (i := 7) (by decide) [0, 1, 8, 19, 20, 22] (by decide), _, rfl, iteF ?_⟩
      refine ⟨.ref a, rfl, a, cm 7, dx, _, .ref (cm 2), .ref (cm 2), false, rfl, z0 _ _ h1, z0 _ _ h2, T.ex 7 (by decide), fun u r => r, T.sub 7 2 (by decide) (by decide), _, rfl, iteF ?_⟩
      refine ⟨.ref a, rfl, (show (2 : Nat) ≤ sizeLine by decide), fun t2 m2 => ?_⟩
      have z2 := same_upd (o := .tup ([3, 4].map fun j => V.ref (cm j))) m2
      refine ⟨a, cm 7, dx, t2, _, _, _, false, rfl, (z0.trans z2) _ _ h1, (z0.trans z2) _ _ h2, T.ex 7 (by decide), upd_same, vals_refs cm [3, 4], T.any (i := 7) (by decide) [3, 4] (by decide), _, rfl, iteF ?_⟩
      refine ⟨.ref a, rfl, a, cm 7, dx, _, .ref (cm 9), .ref (cm 9), false, rfl, (z0.trans z2) _ _ h1, (z0.trans z2) _ _ h2, T.ex 7 (by decide), fun u r => r, T.sub 7 9 (by decide) (by decide), _, rfl, iteF ?_⟩
      refine ⟨.ref a, rfl, (show (5 : Nat) ≤ sizeLine by decide), fun t4 m4 => ?_⟩
      have z4 := same_upd (o := .tup ([11, 12, 14, 18, 23].map fun j => V.ref (cm j))) m4
      refine ⟨a, cm 7, dx, t4, _, _, _, false, rfl, ((z0.trans z2).trans z4) _ _ h1, ((z0.trans z2).trans z4) _ _ h2, T.ex 7 (by decide), upd_same, vals_refs cm [11, 12, 14, 18, 23], T.any (i := 7) (by decide) [11, 12, 14, 18, 23] (by decide), _, rfl, iteF ?_⟩
      refine ⟨.ref a, rfl, (show (2 : Nat) ≤ sizeLine by decide), fun t5 m5 => ?_⟩
      have z5 := same_upd (o := .tup ([13, 24].map fun j => V.ref (cm j))) m5
      refine ⟨a, cm 7, dx, t5, _, _, _, false, rfl, (((z0.trans z2).trans z4).trans z5) _ _ h1, (((z0.trans z2).trans z4).trans z5) _ _ h2, T.ex 7 (by decide), upd_same, vals_refs cm [13, 24], T.any (i := 7) (by decide) [13, 24] (by decide), _, rfl, iteF ?_⟩
      refine ⟨.ref a, rfl, a, cm 7, dx, _, .ref (cm 16), .ref (cm 16), false, rfl, (((z0.trans z2).trans z4).trans z5) _ _ h1, (((z0.trans z2).trans z4).trans z5) _ _ h2, T.ex 7 (by decide), fun u r => r, T.sub 7 16 (by decide) (by decide), _, rfl, iteF ?_⟩
      refine ⟨.ref a, rfl, a, cm 7, dx, _, .ref (cm 25), .ref (cm 25), false, rfl, (((z0.trans z2).trans z4).trans z5) _ _ h1, (((z0.trans z2).trans z4).trans z5) _ _ h2, T.ex 7 (by decide), fun u r => r, T.sub 7 25 (by decide) (by decide), _, rfl, iteF ?_⟩
      exact ⟨(show (0 : Nat) ≤ sizeLine by decide), fun p np => q _ p (((((z0.trans z2).trans z4).trans z5)).trans (same_upd np)) upd_same⟩
    | 8, _ =>
      obtain ⟨y0, rfl⟩ := ws_1 hl
      refine ⟨.ref a, rfl, (show (6 : Nat) ≤ sizeLine by decide), fun t0 m0 => ?_⟩
      have z0 := same_upd (o := .tup ([0, 1, 8, 19, 20, 22].map fun j => V.ref (cm j))) m0
      refine ⟨a, cm 8, dx, t0, _, _, _, true, rfl, z0 _ _ h1, z0 _ _ h2, T.ex 8 (by decide), upd_same, vals_refs cm [0, 1, 8, 19, 20, 22], T.any (i := 8) (by decide) [0, 1, 8, 19, 20, 22] (by decide), _, rfl, iteT ?_⟩
      exact ⟨.ref a, rfl, a, cm 8, dx, _, _, rfl, (z0) _ _ h1, (z0) _ _ h2, B.xf 8 (by decide), B.nw 8 (by decide) _ (by decide), rfl, (show (1 : Nat) ≤ sizeLine by decide), fun p np => q _ p ((z0).trans (same_upd np)) upd_same⟩
    | 9, _ =>
      obtain ⟨y0, rfl⟩ := ws_1 hl
      refine ⟨.ref a, rfl, (show (6 : Nat) ≤ sizeLine by decide), fun t0 m0 => ?_⟩
      have z0 := same_upd (o := .tup ([0, 1, 8, 19, 20, 22].map fun j => V.ref (cm j))) m0
      refine ⟨a, cm 9, dx, t0, _, _, _, false, rfl, z0 _ _ h1, z0 _ _ h2, T.ex 9 (by decide), upd_same, vals_refs cm [0, 1, 8, 19, 20, 22], T.any (i := 9) (by decide) [0, 1, 8, 19, 20, 22] (by decide), _, rfl, iteF ?_⟩
      refine ⟨.ref a, rfl, a, cm 9, dx, _, .ref (cm 2), .ref (cm 2), false, rfl, z0 _ _ h1, z0 _ _ h2, T.ex 9 (by decide), fun u r => r, T.sub 9 2 (by decide) (by decide), _, rfl, iteF ?_⟩
      refine ⟨.ref a, rfl, (show (2 : Nat) ≤ sizeLine by decide), fun t2 m2 => ?_⟩
      have z2 := same_upd (o := .tup ([3, 4].map fun j => V.ref (cm j))) m2
      refine ⟨a, cm 9, dx, t2, _, _, _, false, rfl, (z0.trans z2) _ _ h1, (z0.trans z2) _ _ h2, T.ex 9 (by decide), upd_same, vals_refs cm [3, 4], T.any (i := 9) (by decide) [3, 4] (by decide), _, rfl, iteF ?_⟩
      refine ⟨.ref a, rfl, a, cm 9, dx, _, .ref (cm 9), .ref (cm 9), true, rfl, (z0.trans z2) _ _ h1, (z0.trans z2) _ _ h2, T.ex 9 (by decide), fun u r => r, T.sub 9 9 (by decide) (by decide), _, rfl, iteT ?_⟩
      exact ⟨.ref a, rfl, a, cm 9, dx, _, _, rfl, ((z0.trans z2)) _ _ h1, ((z0.trans z2)) _ _ h2, B.xf 9 (by decide), B.nw 9 (by decide) _ (by decide), rfl, (show (1 : Nat) ≤ sizeLine by decide), fun p np => q _ p (((z0.trans z2)).trans (same_upd np)) upd_same⟩
    | 10, _ =>
      obtain rfl := ws_0 hl
      refine ⟨.ref a, rfl, (show (6 : Nat) ≤ sizeLine by decide), fun t0 m0 => ?_⟩
      have z0 := same_upd (o := .tup ([0, 1, 8, 19, 20, 22].map fun j => V.ref (cm j))) m0
      refine ⟨a, cm 10, dx, t0, _, _, _, false, rfl, z0 _ _ h1, z0 _ _ h2, T.ex 10 (by decide), upd_same, vals_refs cm [0, 1, 8, 19, 20, 22], T.any (i := 10) (by decide) [0, 1, 8, 19, 20, 22] (by decide), _, rfl, iteF ?_⟩
      refine ⟨.ref a, rfl, a, cm 10, dx, _, .ref (cm 2), .ref (cm 2), false, rfl, z0 _ _ h1, z0 _ _ h2, T.ex 10 (by decide), fun u r => r, T.sub 10 2 (by decide) (by decide), _, rfl, iteF ?_⟩
      refine ⟨.ref a, rfl, (show (2 : Nat) ≤ sizeLine by decide), fun t2 m2 => ?_⟩
      have z2 := same_upd (o := .tup ([3, 4].map fun j => V.ref (cm j))) m2
      refine ⟨a, cm 10, dx, t2, _, _, _, false, rfl, (z0.trans z2) _ _ h1, (z0.trans z2) _ _ h2, T.ex 10 (by decide), upd_same, vals_refs cm [3, 4], T.any (i := 10) (by decide) [3, 4] (by decide), _, rfl, iteF ?_⟩
      refine ⟨.ref a, rfl, a, cm 10, dx, _, .ref (cm 9), .ref (cm 9), false, rfl, (z0.trans z2) _ _ h1, (z0.trans z2) _ _ h2, T.ex 10 (by decide), fun u r => r, T.sub 10 9 (by decide) (by decide), _, rfl, iteF ?_⟩
      refine ⟨.ref a, rfl, (show (5 : Nat) ≤ sizeLine by decide), fun t4 m4 => ?_⟩
      have z4 := same_upd (o := .tup ([11, 12, 14, 18, 23].map fun j => V.ref (cm j))) m4
      refine ⟨a, cm 10, dx, t4, _, _, _, false, rfl, ((z0.trans z2).trans z4) _ _ h1, ((z0.trans z2).trans z4) _ _ h2, T.ex 10 (by decide), upd_same, vals_refs cm [11, 12, 14, 18, 23], T.any (i := 10) (by decide) [11, 12, 14, 18, 23] (by decide), _, rfl, iteF ?_⟩
      refine ⟨.ref a, rfl, (show (2 : Nat) ≤ sizeLine by decide), fun t5 m5 => ?_⟩
      have z5 := same_upd (o := .tup ([13, 24].map fun j => V.ref (cm j))) m5
      refine ⟨a, cm 10, dx, t5, _, _, _, false, rfl, (((z0.trans z2).trans z4).trans z5) _ _ h1, (((z0.trans z2).trans z4).trans z5) _ _ h2, T.ex 10 (by decide), upd_same, vals_refs cm [13, 24], T.any (i := 10) (by decide) [13, 24] (by decide), _, rfl, iteF ?_⟩
      refine ⟨.ref a, rfl, a, cm 10, dx, _, .ref (cm 16), .ref (cm 16), false, rfl, (((z0.trans z2).trans z4).trans z5) _ _ h1, (((z0.trans z2).trans z4).trans z5) _ _ h2, T.ex 10 (by decide), fun u r => r, T.sub 10 16 (by decide) (by decide), _, rfl, iteF ?_⟩
      refine ⟨.ref a, rfl, a, cm 10, dx, _, .ref (cm 25), .ref (cm 25), false, rfl, (((z0.trans z2).trans z4).trans z5) _ _ h1, (((z0.trans z2).trans z4).trans z5) _ _ h2, T.ex 10 (by decide), fun u r => r, T.sub 10 25 (by decide) (by decide), _, rfl, iteF ?_⟩
      exact ⟨(show (0 : Nat) ≤ sizeLine by decide), fun p np => q _ p (((((z0.trans z2).trans z4).trans z5)).trans (same_upd np)) upd_same⟩
    | 11, _ =>
      obtain ⟨y0, rfl⟩ := ws_1 hl
      refine ⟨.ref a, rfl, (show (6 : Nat) ≤ sizeLine by decide), fun t0 m0 => ?_⟩
      have z0 := same_upd (o := .tup ([0, 1, 8, 19, 20, 22].map fun j => V.ref (cm j))) m0
      refine ⟨a, cm 11, dx, t0, _, _, _, false, rfl, z0 _ _ h1, z0 _ _ h2, T.ex 11 (by decide), upd_same, vals_refs cm [0, 1, 8, 19, 20, 22], T.any (i := 11) (by decide) [0, 1, 8, 19, 20, 22] (by decide), _, rfl, iteF ?_⟩
      refine ⟨.ref a, rfl, a, cm 11, dx, _, .ref (cm 2), .ref (cm 2), false, rfl, z0 _ _ h1, z0 _ _ h2, T.ex 11 (by decide), fun u r => r, T.sub 11 2 (by decide) (by decide), _, rfl, iteF ?_⟩
      refine ⟨.ref a, rfl, (show (2 : Nat) ≤ sizeLine by decide), fun t2 m2 => ?_⟩
      have z2 := same_upd (o := .tup ([3, 4].map fun j => V.ref (cm j))) m2
      refine ⟨a, cm 11, dx, t2, _, _, _, false, rfl, (z0.trans z2) _ _ h1, (z0.trans z2) _ _ h2, T.ex 11 (by decide), upd_same, vals_refs cm [3, 4], T.any (i := 11) (by decide) [3, 4] (by decide), _, rfl, iteF ?_⟩
      refine ⟨.ref a, rfl, a, cm 11, dx, _, .ref (cm 9), .ref (cm 9), false, rfl, (z0.trans z2) _ _ h1, (z0.trans z2) _ _ h2, T.ex 11 (by decide), fun u r => r, T.sub 11 9 (by decide) (by decide), _, rfl, iteF ?_⟩
      refine ⟨.ref a, rfl, (show (5 : Nat) ≤ sizeLine by decide), fun t4 m4 => ?_⟩
      have z4 := same_upd (o := .tup ([11, 12, 14, 18, 23].map fun j => V.ref (cm j))) m4
      refine ⟨a, cm 11, dx, t4, _, _, _, true, rfl, ((z0.trans z2).trans z4) _ _ h1, ((z0.trans z2).trans z4) _ _ h2, T.ex 11 (by decide), upd_same, vals_refs cm [11, 12, 14, 18, 23], T.any (i := 11) (by decide) [11, 12, 14, 18, 23] (by decide), _, rfl, iteT ?_⟩
      exact ⟨.ref a, rfl, a, cm 11, dx, _, _, rfl, (((z0.trans z2).trans z4)) _ _ h1, (((z0.trans z2).trans z4)) _ _ h2, B.xf 11 (by decide), B.nw 11 (by decide) _ (by decide), rfl, (show (1 : Nat) ≤ sizeLine by decide), fun p np => q _ p ((((z0.trans z2).trans z4)).trans (same_upd np)) upd_same⟩
    | 12, _ =>
      obtain ⟨y0, rfl⟩ := ws_1 hl
      refine ⟨.ref a, rfl, (show (6 : Nat) ≤ sizeLine by decide), fun t0 m0 => ?_⟩
      have z0 := same_upd (o := .tup ([0, 1, 8, 19, 20, 22].map fun j => V.ref (cm j))) m0
      refine ⟨a, cm 12, dx, t0, _, _, _, false, rfl, z0 _ _ h1, z0 _ _ h2, T.ex 12 (by decide), upd_same, vals_refs cm [0, 1, 8, 19, 20, 22], T.any (i := 12) (by decide) [0, 1, 8, 19, 20, 22] (by decide), _, rfl, iteF ?_⟩
      refine ⟨.ref a, rfl, a, cm 12, dx, _, .ref (cm 2), .ref (cm 2), false, rfl, z0 _ _ h1, z0 _ _ h2, T.ex 12 (by decide), fun u r => r, T.sub 12 2 (by decide) (by decide), _, rfl, iteF ?_⟩
      refine ⟨.ref a, rfl, (show (2 : Nat) ≤ sizeLine by decide), fun t2 m2 => ?_⟩
      have z2 := same_upd (o := .tup ([3, 4].map fun j => V.ref (cm j))) m2
      refine ⟨a, cm 12, dx, t2, _, _, _, false, rfl, (z0.trans z2) _ _ h1, (z0.trans z2) _ _ h2, T.ex 12 (by decide), upd_same, vals_refs cm [3, 4], T.any (i := 12) (by decide) [3, 4] (by decide), _, rfl, iteF ?_⟩
      refine ⟨.ref a, rfl, a, cm 12, dx, _, .ref (cm 9), .ref (cm 9), false, rfl, (z0.trans z2) _ _ h1, (z0.trans z2) _ _ h2, T.ex 12 (by decide), fun u r => r, T.sub 12 9 (by decide) (by decide), _, rfl, iteF ?_⟩
      refine ⟨.ref a, rfl, (show (5 : Nat) ≤ sizeLine by decide), fun t4 m4 => ?_⟩
      have z4 := same_upd (o := .tup ([11, 12, 14, 18, 23].map fun j => V.ref (cm j))) m4
      refine ⟨a, cm 12, dx, t4, _, _, _, true, rfl, ((z0.trans z2).trans z4) _ _ h1, ((z0.trans z2).trans z4) _ _ h2, T.ex 12 (by decide), upd_same, vals_refs cm [11, 12, 14, 18, 23], T.any (i := 12) (by decide) [11, 12, 14, 18, 23] (by decide), _, rfl, iteT ?_⟩
      exact ⟨.ref a, rfl, a, cm 12, dx, _, _, rfl, (((z0.trans z2).trans z4)) _ _ h1, (((z0.trans z2).trans z4)) _ _ h2, B.xf 12 (by decide), B.nw 12 (by decide) _ (by decide), rfl, (show (1 : Nat) ≤ sizeLine by decide), fun p np => q _ p ((((z0.trans z2).trans z4)).trans (same_upd np)) upd_same⟩
    | 13, _ =>
      obtain ⟨y0, rfl⟩ := ws_1 hl
      refine ⟨.ref a, rfl, (show (6 : Nat) ≤ sizeLine by decide), fun t0 m0 => ?_⟩
      have z0 := same_upd (o := .tup ([0, 1, 8, 19, 20, 22].map fun j => V.ref (cm j))) m0
      refine ⟨a, cm 13, dx, t0, _, _, _, false, rfl, z0 _ _ h1, z0 _ _ h2, T.ex 13 (by decide), upd_same, vals_refs cm [0, 1, 8, 19, 20, 22], T.any (i := 13) (by decide) [0, 1, 8, 19, 20, 22] (by decide), _, rfl, iteF ?_⟩
      refine ⟨.ref a, rfl, a, cm 13, dx, _, .ref (cm 2), .ref (cm 2), false, rfl, z0 _ _ h1, z0 _ _ h2, T.ex 13 (by decide), fun u r => r, T.sub 13 2 (by decide) (by decide), _, rfl, iteF ?_⟩
      refine ⟨.ref a, rfl, (show (2 : Nat) ≤ sizeLine by decide), fun t2 m2 => ?_⟩
      have z2 := same_upd (o := .tup ([3, 4].map fun j => V.ref (cm j))) m2
      refine ⟨a, cm 13, dx, t2, _, _, _, false, rfl, (z0.trans z2) _ _ h1, (z0.trans z2) _ _ h2, T.ex 13 (by decide), upd_same, vals_refs cm [3, 4], T.any (i := 13) (by decide) [3, 4] (by decide), _, rfl, iteF ?_⟩
      refine ⟨.ref a, rfl, a, cm 13, dx, _, .ref (cm 9), .ref (cm 9), false, rfl, (z0.trans z2) _ _ h1, (z0.trans z2) _ _ h2, T.ex 13 (by decide), fun u r => r, T.sub 13 9 (by decide) (by decide), _, rfl, iteF ?_⟩
      refine ⟨.ref a, rfl, (show (5 : Nat) ≤ sizeLine by decide), fun t4 m4 => ?_⟩
      have z4 := same_upd (o := .tup ([11, 12, 14, 18, 23].map fun j => V.ref (cm j))) m4
      refine ⟨a, cm 13, dx, t4, _, _, _, false, rfl, ((z0.trans z2).trans z4) _ _ h1, ((z0.trans z2).trans z4) _ _ h2, T.ex 13 (by decide), upd_same, vals_refs cm [11, 12, 14, 18, 23], T.any (i := 13) (by decide) [11, 12, 14, 18, 23] (by decide), _, rfl, iteF ?_⟩
      refine ⟨.ref a, rfl, (show (2 : Nat) ≤ sizeLine by decide), fun t5 m5 => ?_⟩
      have z5 := same_upd (o := .tup ([13, 24].map fun j => V.ref (cm j))) m5
      refine ⟨a, cm 13, dx, t5, _, _, _, true, rfl, (((z0.trans z2).trans z4).trans z5) _ _ h1, (((z0.trans z2).trans z4).trans z5) _ _ h2, T.ex 13 (by decide), upd_same, vals_refs cm [13, 24], T.any (i := 13) (by decide) [13, 24] (by decide), _, rfl, iteT ?_⟩
      exact ⟨.ref a, rfl, a, cm 13, dx, _, _, rfl, ((((z0.trans z2).trans z4).trans z5)) _ _ h1, ((((z0.trans z2).trans z4).trans z5)) _ _ h2, B.xf 13 (by decide), B.nw 13 (by decide) _ (by decide), rfl, (show (1 : Nat) ≤ sizeLine by decide), fun p np => q _ p (((((z0.trans z2).trans z4).trans z5)).trans (same_upd np)) upd_same⟩
    | 14, _ =>
      obtain ⟨y0, rfl⟩ := ws_1 hl
      refine ⟨.ref a, rfl, (show (6 : Nat) ≤ sizeLine by decide), fun t0 m0 => ?_⟩
      have z0 := same_upd (o := .tup ([0, 1, 8, 19, 20, 22].map fun j => V.ref (cm j))) m0
      refine ⟨a, cm 14, dx, t0, _, _, _, false, rfl, z0 _ _ h1, z0 _ _ h2, T.ex 14 (by decide), upd_same, vals_refs cm [0, 1, 8, 19, 20, 22], T.any (i := 14) (by decide) [0, 1, 8, 19, 20, 22] (by decide), _, rfl, iteF ?_⟩
      refine ⟨.ref a, rfl, a, cm 14, dx, _, .ref (cm 2), .ref (cm 2), false, rfl, z0 _ _ h1, z0 _ _ h2, T.ex 14 (by decide), fun u r => r, T.sub 14 2 (by decide) (by decide), _, rfl, iteF ?_⟩
      refine ⟨.ref a, rfl, (show (2 : Nat) ≤ sizeLine by decide), fun t2 m2 => ?_⟩
      have z2 := same_upd (o := .tup ([3, 4].map fun j => V.ref (cm j))) m2
      refine ⟨a, cm 14, dx, t2, _, _, _, false, rfl, (z0.trans z2) _ _ h1, (z0.trans z2) _ _ h2, T.ex 14 (by decide), upd_same, vals_refs cm [3, 4], T.any (i := 14) (by decide) [3, 4] (by decide), _, rfl, iteF ?_⟩
      refine ⟨.ref a, rfl, a, cm 14, dx, _, .ref (cm 9), .ref (cm 9), false, rfl, (z0.trans z2) _ _ h1, (z0.trans z2) _ _ h2, T.ex 14 (by decide), fun u r => r, T.sub 14 9 (by decide) (by decide), _, rfl, iteF ?_⟩
      refine ⟨.ref a, rfl, (show (5 : Nat) ≤ sizeLine by decide), fun t4 m4 => ?_⟩
      have z4 := same_upd (o := .tup ([11, 12, 14, 18, 23].map fun j => V.ref (cm j))) m4
      refine ⟨a, cm 14, dx, t4, _, _, _, true, rfl, ((z0.trans z2).trans z4) _ _ h1, ((z0.trans z2).trans z4) _ _ h2, T.ex 14 (by decide), upd_same, vals_refs cm [11, 12, 14, 18, 23], T.any (i := 14) (by decide) [11, 12, 14, 18, 23] (by decide), _, rfl, iteT ?_⟩
      exact ⟨.ref a, rfl, a, cm 14, dx, _, _, rfl, (((z0.trans z2).trans z4)) _ _ h1, (((z0.trans z2).trans z4)) _ _ h2, B.xf 14 (by decide), B.nw 14 (by decide) _ (by decide), rfl, (show (1 : Nat) ≤ sizeLine by decide), fun p np => q _ p ((((z0.trans z2).trans z4)).trans (same_upd np)) upd_same⟩
    | 15, _ =>
      obtain rfl := ws_0 hl
      refine ⟨.ref a, rfl, (show (6 : Nat) ≤ sizeLine by decide), fun t0 m0 => ?_⟩
      have z0 := same_upd (o := .tup ([0, 1, 8, 19, 20, 22].map fun j => V.ref (cm j))) m0
      refine ⟨a, cm 15, dx, t0, _, _, _, false, rfl, z0 _ _ h1, z0 _ _ h2, T.ex 15 (by decide), upd_same, vals_refs cm [0, 1, 8, 19, 20, 22], T.any (i := 15) (by decide) [0, 1, 8, 19, 20, 22] (by decide), _, rfl, iteF ?_⟩
      refine ⟨.ref a, rfl, a, cm 15, dx, _, .ref (cm 2), .ref (cm 2), false, rfl, z0 _ _ h1, z0 _ _ h2, T.ex 15 (by decide), fun u r => r, T.sub 15 2 (by decide) (by decide), _, rfl, iteF ?_⟩
      refine ⟨.ref a, rfl, (show (2 : Nat) ≤ sizeLine by decide), fun t2 m2 => ?_⟩
      have z2 := same_upd (o := .tup ([3, 4].map fun j => V.ref (cm j))) m2
      refine ⟨a, cm 15, dx, t2, _, _, _, false, rfl, (z0.trans z2) _ _ h1, (z0.trans z2) _ _ h2, T.ex 15 (by decide), upd_same, vals_refs cm [3, 4], T.any (i := 15) (by decide) [3, 4] (by decide), _, rfl, iteF ?_⟩
      refine ⟨.ref a, rfl, a, cm 15, dx, _, .ref (cm 9), .ref (cm 9), false, rfl, (z0.trans z2) _ _ h1, (z0.trans z2) _ _ h2, T.ex 15 (by decide), fun u r => r, T.sub 15 9 (by decide) (by decide), _, rfl, iteF ?_⟩
      refine ⟨.ref a, rfl, (show (5 : Nat) ≤ sizeLine by decide), fun t4 m4 => ?_⟩
      have z4 := same_upd (o := .tup ([11, 12, 14, 18, 23].map fun j => V.ref (cm j))) m4
      refine ⟨a, cm 15, dx, t4, _, _, _, false, rfl, ((z0.trans z2).trans z4) _ _ h1, ((z0.trans z2).trans z4) _ _ h2, T.ex 15 (by decide), upd_same, vals_refs cm [11, 12, 14, 18, 23], T.any (i := 15) (by decide) [11, 12, 14, 18, 23] (by decide), _, rfl, iteF ?_⟩
      refine ⟨.ref a, rfl, (show (2 : Nat) ≤ sizeLine by decide), fun t5 m5 => ?_⟩
      have z5 := same_upd (o := .tup ([13, 24].map fun j => V.ref (cm j))) m5
      refine ⟨a, cm 15, dx, t5, _, _, _, false, rfl, (((z0.trans z2).trans z4).trans z5) _ _ h1, (((z0.trans z2).trans z4).trans z5) _ _ h2, T.ex 15 (by decide), upd_same, vals_refs cm [13, 24], T.any (i := 15) (by decide) [13, 24] (by decide), _, rfl, iteF ?_⟩
      refine ⟨.ref a, rfl, a, cm 15, dx, _, .ref (cm 16), .ref (cm 16), false, rfl, (((z0.trans z2).trans z4).trans z5) _ _ h1, (((z0.trans z2).trans z4).trans z5) _ _ h2, T.ex 15 (by decide), fun u r => r, T.sub 15 16 (by decide) (by decide), _, rfl, iteF ?_⟩
      refine ⟨.ref a, rfl, a, cm 15, dx, _, .ref (cm 25), .ref (cm 25), false, rfl, (((z0.trans z2).trans z4).trans z5) _ _ h1, (((z0.trans z2).trans z4).trans z5) _ _ h2, T.ex 15 (by decide), fun u r => r, T.sub 15 25 (by decide) (by decide), _, rfl, iteF ?_⟩
      exact ⟨(show (0 : Nat) ≤ sizeLine by decide), fun p np => q _ p (((((z0.trans z2).trans z4).trans z5)).trans (same_upd np)) upd_same⟩
    | 16, _ =>
      obtain ⟨y0, rfl⟩ := ws_1 hl
      refine ⟨.ref a, rfl, (show (6 : Nat) ≤ sizeLine by decide), fun t0 m0 => ?_⟩
      have z0 := same_upd (o := .tup ([0, 1, 8, 19, 20, 22].map fun j => V.ref (cm j))) m0
      refine ⟨a, cm 16, dx, t0, _, _, _, false, rfl, z0 _ _ h1, z0 _ _ h2, T.ex 16 (by decide), upd_same, vals_refs cm [0, 1, 8, 19, 20, 22], T.any (i := 16) (by decide) [0, 1, 8, 19, 20, 22] (by decide), _, rfl, iteF ?_⟩
      refine ⟨.ref a, rfl, a, cm 16, dx, _, .ref (cm 2), .ref (cm 2), false, rfl, z0 _ _ h1, z0 _ _ h2, T.ex 16 (by decide), fun u r => r, T.sub 16 2 (by decide) (by decide), _, rfl, iteF ?_⟩
      refine ⟨.ref a, rfl, (show (2 : Nat) ≤ sizeLine by decide), fun t2 m2 => ?_⟩
      have z2 := same_upd (o := .tup ([3, 4].map fun j => V.ref (cm j))) m2
      refine ⟨a, cm 16, dx, t2, _, _, _, false, rfl, (z0.trans z2) _ _ h1, (z0.trans z2) _ _ h2, T.ex 16 (by decide), upd_same, vals_refs cm [3, 4], T.any (i := 16) (by decide) [3, 4] (by decide), _, rfl, iteF ?_⟩
      refine ⟨.ref a, rfl, a, cm 16, dx, _, .ref (cm 9), .ref (cm 9), false, rfl, (z0.trans z2) _ _ h1, (z0.trans z2) _ _ h2, T.ex 16 (by decide), fun u r => r, T.sub 16 9 (by decide) (by decide), _, rfl, iteF ?_⟩
      refine ⟨.ref a, rfl, (show (5 : Nat) ≤ sizeLine by decide), fun t4 m4 => ?_⟩
      have z4 := same_upd (o := .tup ([11, 12, 14, 18, 23].map fun j => V.ref (cm j))) m4
      refine ⟨a, cm 16, dx, t4, _, _, _, false, rfl, ((z0.trans z2).trans z4) _ _ h1, ((z0.trans z2).trans z4) _ _ h2, T.ex 16 (by decide), upd_same, vals_refs cm [11, 12, 14, 18, 23], T.any (i := 16) (by decide) [11, 12, 14, 18, 23] (by decide), _, rfl, iteF ?_⟩
      refine ⟨.ref a, rfl, (show (2 : Nat) ≤ sizeLine by decide), fun t5 m5 => ?_⟩
      have z5 := same_upd (o := .tup ([13, 24].map fun j => V.ref (cm j))) m5
      refine ⟨a, cm 16, dx, t5, _, _, _, false, rfl, (((z0.trans z2).trans z4).trans z5) _ _ h1, (((z0.trans z2).trans z4).trans z5) _ _ h2, T.ex 16 (by decide), upd_same, vals_refs cm [13, 24], T.any (i := 16) (by decide) [13, 24] (by decide), _, rfl, iteF ?_⟩
      refine ⟨.ref a, rfl, a, cm 16, dx, _, .ref (cm 16), .ref (cm 16), true, rfl, (((z0.trans z2).trans z4).trans z5) _ _ h1, (((z0.trans z2).trans z4).trans z5) _ _ h2, T.ex 16 (by decide), fun u r => r, T.sub 16 16 (by decide) (by decide), _, rfl, iteT ?_⟩
      exact ⟨.ref a, rfl, a, cm 16, dx, _, _, rfl, ((((z0.trans z2).trans z4).trans z5)) _ _ h1, ((((z0.trans z2).trans z4).trans z5)) _ _ h2, B.xf 16 (by decide), B.nw 16 (by decide) _ (by decide), rfl, (show (1 : Nat) ≤ sizeLine by decide), fun p np => q _ p (((((z0.trans z2).trans z4).trans z5)).trans (same_upd np)) upd_same⟩
    | 17, _ =>
      obtain rfl := ws_0 hl
      refine ⟨.ref a, rfl, (show (6 : Nat) ≤ sizeLine by decide), fun t0 m0 => ?_⟩
      have z0 := same_upd (o := .tup ([0, 1, 8, 19, 20, 22].map fun j => V.ref (cm j))) m0
      refine ⟨a, cm 17, dx, t0, _, _, _, false, rfl, z0 _ _ h1, z0 _ _ h2, T.ex 17 (by decide), upd_same, vals_refs cm [0, 1, 8, 19, 20, 22], T.any (i := 17) (by decide) [0, 1, 8, 19, 20, 22] (by decide), _, rfl, iteF ?_⟩
      refine ⟨.ref a, rfl, a, cm 17, dx, _, .ref (cm 2), .ref (cm 2), false, rfl, z0 _ _ h1, z0 _ _ h2, T.ex 17 (by decide), fun u r => r, T.sub 17 2 (by decide) (by decide), _, rfl, iteF ?_⟩
      refine ⟨.ref a, rfl, (show (2 : Nat) ≤ sizeLine by decide), fun t2 m2 => ?_⟩
      have z2 := same_upd (o := .tup ([3, 4].map fun j => V.ref (cm j))) m2
      refine ⟨a, cm 17, dx, t2, _, _, _, false, rfl, (z0.trans z2) _ _ h1, (z0.trans z2) _ _ h2, T.ex 17 (by decide), upd_same, vals_refs cm [3, 4], T.any (i := 17) (by decide) [3, 4] (by decide), _, rfl, iteF ?_⟩
      refine ⟨.ref a, rfl, a, cm 17, dx, _, .ref (cm 9), .ref (cm 9), false, rfl, (z0.trans z2) _ _ h1, (z0.trans z2) _ _ h2, T.ex 17 (by decide), fun u r => r, T.sub 17 9 (by decide) (by decide), _, rfl, iteF ?_⟩
      refine ⟨.ref a, rfl, (show (5 : Nat) ≤ sizeLine by decide), fun t4 m4 => ?_⟩
      have z4 := same_upd (o := .tup ([11, 12, 14, 18, 23].map fun j => V.ref (cm j))) m4
      refine ⟨a, cm 17, dx, t4, _, _, _, false, rfl, ((z0.trans z2).trans z4) _ _ h1, ((z0.trans z2).trans z4) _ _ h2, T.ex 17 (by decide), upd_same, vals_refs cm [11, 12, 14, 18, 23], T.any (i := 17) (by decide) [11, 12, 14, 18, 23] (by decide), _, rfl, iteF ?_⟩
      refine ⟨.ref a, rfl, (show (2 : Nat) ≤ sizeLine by decide), fun t5 m5 => ?_⟩
      have z5 := same_upd (o := .tup ([13, 24].map fun j => V.ref (cm j))) m5
      refine ⟨a, cm 17, dx, t5, _, _, _, false, rfl, (((z0.trans z2).trans z4).trans z5) _ _ h1, (((z0.trans z2).trans z4).trans z5) _ _ h2, T.ex 17 (by decide), upd_same, vals_refs cm [13, 24], T.any (i := 17) (by decide) [13, 24] (by decide), _, rfl, iteF ?_⟩
      refine ⟨.ref a, rfl, a, cm 17, dx, _, .ref (cm 16), .ref (cm 16), false, rfl, (((z0.trans z2).trans z4).trans z5) _ _ h1, (((z0.trans z2).trans z4).trans z5) _ _ h2, T.ex 17 (by decide), fun u r => r, T.sub 17 16 (by decide) (by decide), _, rfl, iteF ?_⟩
      refine ⟨.ref a, rfl, a, cm 17, dx, _, .ref (cm 25), .ref (cm 25), false, rfl, (((z0.trans z2).trans z4).trans z5) _ _ h1, (((z0.trans z2).trans z4).trans z5) _ _ h2, T.ex 17 (by decide), fun u r => r, T.sub 17 25 (by decide) (by decide), _, rfl, iteF ?_⟩
      exact ⟨(show (0 : Nat) ≤ sizeLine by decide), fun p np => q _ p (((((z0.trans z2).trans z4).trans z5)).trans (same_upd np)) upd_same⟩
    | 18, _ =>
      obtain ⟨y0, rfl⟩ := ws_1 hl
      refine ⟨.ref a, rfl, (show (6 : Nat) ≤ sizeLine by decide), fun t0 m0 => ?_⟩
      have z0 := same_upd (o := .tup ([0, 1, 8, 19, 20, 22].map fun j => V.ref (cm j))) m0
      refine ⟨a, cm 18, dx, t0, _, _, _, false, rfl, z0 _ _ h1, z0 _ _ h2, T.ex 18 (by decide), upd_same, vals_refs cm [0, 1, 8, 19, 20, 22], T.any (i := 18) (by decide) [0, 1, 8, 19, 20, 22] (by decide), _, rfl, iteF ?_⟩
      refine ⟨.ref a, rfl, a, cm 18, dx, _, .ref (cm 2), .ref (cm 2), false, rfl, z0 _ _ h1, z0 _ _ h2, T.ex 18 (by decide), fun u r => r, T.sub 18 2 (by decide) (by decide), _, rfl, iteF ?_⟩
      refine ⟨.ref a, rfl, (show (2 : Nat) ≤ sizeLine by decide), fun t2 m2 => ?_⟩
      have z2 := same_upd (o := .tup ([3, 4].map fun j => V.ref (cm j))) m2
      refine ⟨a, cm 18, dx, t2, _, _, _, false, rfl, (z0.trans z2) _ _ h1, (z0.trans z2) _ _ h2, T.ex 18 (by decide), upd_same, vals_refs cm [3, 4], T.any (i := 18) (by decide) [3, 4] (by decide), _, rfl, iteF ?_⟩
      refine ⟨.ref a, rfl, a, cm 18, dx, _, .ref (cm 9), .ref (cm 9), false, rfl, (z0.trans z2) _ _ h1, (z0.trans z2) _ _ h2, T.ex 18 (by decide), fun u r => r, T.sub 18 9 (by decide) (by decide), _, rfl, iteF ?_⟩
      refine ⟨.ref a, rfl, (show (5 : Nat) ≤ sizeLine by decide), fun t4 m4 => ?_⟩
      have z4 := same_upd (o := .tup ([11, 12, 14, 18, 23].map fun j => V.ref (cm j))) m4
      refine ⟨a, cm 18, dx, t4, _, _, _, true, rfl, ((z0.trans z2).trans z4) _ _ h1, ((z0.trans z2).trans z4) _ _ h2, T.ex 18 (by decide), upd_same, vals_refs cm [11, 12, 14, 18, 23], T.any (i := 18) (by decide) [11, 12, 14, 18, 23] (by decide), _, rfl, iteT ?_⟩
      exact ⟨.ref a, rfl, a, cm 18, dx, _, _, rfl, (((z0.trans z2).trans z4)) _ _ h1, (((z0.trans z2).trans z4)) _ _ h2, B.xf 18 (by decide), B.nw 18 (by decide) _ (by decide), rfl, (show (1 : Nat) ≤ sizeLine by decide), fun p np => q _ p ((((z0.trans z2).trans z4)).trans (same_upd np)) upd_same⟩
    | 19, _ =>
      obtain ⟨y0, rfl⟩ := ws_1 hl
      refine ⟨.ref a, rfl, (show (6 : Nat) ≤ sizeLine by decide), fun t0 m0 => ?_⟩
      have z0 := same_upd (o := .tup ([0, 1, 8, 19, 20, 22].map fun j => V.ref (cm j))) m0
      refine ⟨a, cm 19, dx, t0, _, _, _, true, rfl, z0 _ _ h1, z0 _ _ h2, T.ex 19 (by decide), upd_same, vals_refs cm [0, 1, 8, 19, 20, 22], T.any (i := 19) (by decide) [0, 1, 8, 19, 20, 22] (by decide), _, rfl, iteT ?_⟩
      exact ⟨.ref a, rfl, a, cm 19, dx, _, _, rfl, (z0) _ _ h1, (z0) _ _ h2, B.xf 19 (by decide), B.nw 19 (by decide) _ (by decide), rfl, (show (1 : Nat) ≤ sizeLine by decide), fun p np => q _ p ((z0).trans (same_upd np)) upd_same⟩
    | 20, _ =>
      obtain ⟨y0, rfl⟩ := ws_1 hl
      refine ⟨.ref a, rfl, (show (6 : Nat) ≤ sizeLine by decide), fun t0 m0 => ?_⟩
      have z0 := same_upd (o := .tup ([0, 1, 8, 19, 20, 22].map fun j => V.ref (cm j))) m0
      refine ⟨a, cm 20, dx, t0, _, _, _, true, rfl, z0 _ _ h1, z0 _ _ h2, T.ex 20 (by decide), upd_same, vals_refs cm [0, 1, 8, 19, 20, 22], T.any (i := 20) (by decide) [0, 1, 8, 19, 20, 22] (by decide), _, rfl, iteT ?_⟩
      exact ⟨.ref a, rfl, a, cm 20, dx, _, _, rfl, (z0) _ _ h1, (z0) _ _ h2, B.xf 20 (by decide), B.nw 20 (by decide) _ (by decide), rfl, (show (1 : Nat) ≤ sizeLine by decide), fun p np => q _ p ((z0).trans (same_upd np)) upd_same⟩
    | 21, _ =>
      obtain rfl := ws_0 hl
      refine ⟨.ref a, rfl, (show (6 : Nat) ≤ sizeLine by decide), fun t0 m0 => ?_⟩
      have z0 := same_upd (o := .tup ([0, 1, 8, 19, 20, 22].map fun j => V.ref (cm j))) m0
      refine ⟨a, cm 21, dx, t0, _, _, _, false, rfl, z0 _ _ h1, z0 _ _ h2, T.ex 21 (by decide), upd_same, vals_refs cm [0, 1, 8, 19, 20, 22], T.any (i := 21) (by decide) [0, 1, 8, 19, 20, 22] (by decide), _, rfl, iteF ?_⟩
      refine ⟨.ref a, rfl, a, cm 21, dx, _, .ref (cm 2), .ref (cm 2), false, rfl, z0 _ _ h1, z0 _ _ h2, T.ex 21 (by decide), fun u r => r, T.sub 21 2 (by decide) (by decide), _, rfl, iteF ?_⟩
      refine ⟨.ref a, rfl, (show (2 : Nat) ≤ sizeLine by decide), fun t2 m2 => ?_⟩
      have z2 := same_upd (o := .tup ([3, 4].map fun j => V.ref (cm j))) m2
      refine ⟨a, cm 21, dx, t2, _, _, _, false, rfl, (z0.trans z2) _ _ h1, (z0.trans z2) _ _ h2, T.ex 21 (by decide), upd_same, vals_refs cm [3, 4], T.any (i := 21) (by decide) [3, 4] (by decide), _, rfl, iteF ?_⟩
      refine ⟨.ref a, rfl, a, cm 21, dx, _, .ref (cm 9), .ref (cm 9), false, rfl, (z0.trans z2) _ _ h1, (z0.trans z2) _ _ h2, T.ex 21 (by decide), fun u r => r, T.sub 21 9 (by decide) (by decide), _, rfl, iteF ?_⟩
      refine ⟨.ref a, rfl, (show (5 : Nat) ≤ sizeLine by decide), fun t4 m4 => ?_⟩
      have z4 := same_upd (o := .tup ([11, 12, 14, 18, 23].map fun j => V.ref (cm j))) m4
      refine ⟨a, cm 21, dx, t4, _, _, _, false, rfl, ((z0.trans z2).trans z4) _ _ h1, ((z0.trans z2).trans z4) _ _ h2, T.ex 21 (by decide), upd_same, vals_refs cm [11, 12, 14, 18, 23], T.any (i := 21) (by decide) [11, 12, 14, 18, 23] (by decide), _, rfl, iteF ?_⟩
      refine ⟨.ref a, rfl, (show (2 : Nat) ≤ sizeLine by decide), fun t5 m5 => ?_⟩
      have z5 := same_upd (o := .tup ([13, 24].map fun j => V.ref (cm j))) m5
      refine ⟨a, cm 21, dx, t5, _, _, _, false, rfl, (((z0.trans z2).trans z4).trans z5) _ _ h1, (((z0.trans z2).trans z4).trans z5) _ _ h2, T.ex 21 (by decide), upd_same, vals_refs cm [13, 24], T.any (i := 21) (by decide) [13, 24] (by decide), _, rfl, iteF ?_⟩
      refine ⟨.ref a, rfl, a, cm 21, dx, _, .ref (cm 16), .ref (cm 16), false, rfl, (((z0.trans z2).trans z4).trans z5) _ _ h1, (((z0.trans z2).trans z4).trans z5) _ _ h2, T.ex 21 (by decide), fun u r => r, T.sub 21 16 (by decide) (by decide), _, rfl, iteF ?_⟩
      refine ⟨.ref a, rfl, a, cm 21, dx, _, .ref (cm 25), .ref (cm 25), false, rfl, (((z0.trans z2).trans z4).trans z5) _ _ h1, (((z0.trans z2).trans z4).trans z5) _ _ h2, T.ex 21 (by decide), fun u r => r, T.sub 21 25 (by decide) (by decide), _, rfl, iteF ?_⟩
      exact ⟨(show (0 : Nat) ≤ sizeLine by decide), fun p np => q _ p (((((z0.trans z2).trans z4).trans z5)).trans (same_upd np)) upd_same⟩
    | 22, _ =>
      obtain ⟨y0, rfl⟩ := ws_1 hl
      refine ⟨.ref a, rfl, (show (6 : Nat) ≤ sizeLine by decide), fun t0 m0 => ?_⟩
      have z0 := same_upd (o := .tup ([0, 1, 8, 19, 20, 22].map fun j => V.ref (cm j))) m0
      refine ⟨a, cm 22, dx, t0, _, _, _, true, rfl, z0 _ _ h1, z0 _ _ h2, T.ex 22 (by decide), upd_same, vals_refs cm [0, 1, 8, 19, 20, 22], T.any (i := 22) (by decide) [0, 1, 8, 19, 20, 22] (by decide), _, rfl, iteT ?_⟩
      exact ⟨.ref a, rfl, a, cm 22, dx, _, _, rfl, (z0) _ _ h1, (z0) _ _ h2, B.xf 22 (by decide), B.nw 22 (by decide) _ (by decide), rfl, (show (1 : Nat) ≤ sizeLine by decide), fun p np => q _ p ((z0).trans (same_upd np)) upd_same⟩
    | 23, _ =>
      obtain ⟨y0, rfl⟩ := ws_1 hl
      refine ⟨.ref a, rfl, (show (6 : Nat) ≤ sizeLine by decide), fun t0 m0 => ?_⟩
      have z0 := same_upd (o := .tup ([0, 1, 8, 19, 20, 22].map fun j => V.ref (cm j))) m0
      refine ⟨a, cm 23, dx, t0, _, _, _, false, rfl, z0 _ _ h1, z0 _ _ h2, T.ex 23 (by decide), upd_same, vals_refs cm [0, 1, 8, 19, 20, 22], T.any (i := 23) (by decide) [0, 1, 8, 19, 20, 22] (by decide), _, rfl, iteF ?_⟩
      refine ⟨.ref a, rfl, a, cm 23, dx, _, .ref (cm 2), .ref (cm 2), false, rfl, z0 _ _ h1, z0 _ _ h2, T.ex 23 (by decide), fun u r => r, T.sub 23 2 (by decide) (by decide), _, rfl, iteF ?_⟩
      refine ⟨.ref a, rfl, (show (2 : Nat) ≤ sizeLine by decide), fun t2 m2 => ?_⟩
      have z2 := same_upd (o := .tup ([3, 4].map fun j => V.ref (cm j))) m2
      refine ⟨a, cm 23, dx, t2, _, _, _, false, rfl, (z0.trans z2) _ _ h1, (z0.trans z2) _ _ h2, T.ex 23 (by decide), upd_same, vals_refs cm [3, 4], T.any (i := 23) (by decide) [3, 4] (by decide), _, rfl, iteF ?_⟩
      refine ⟨.ref a, rfl, a, cm 23, dx, _, .ref (cm 9), .ref (cm 9), false, rfl, (z0.trans z2) _ _ h1, (z0.trans z2) _ _ h2, T.ex 23 (by decide), fun u r => r, T.sub 23 9 (by decide) (by decide), _, rfl, iteF ?_⟩
      refine ⟨.ref a, rfl, (show (5 : Nat) ≤ sizeLine by decide), fun t4 m4 => ?_⟩
      have z4 := same_upd (o := .tup ([11, 12, 14, 18, 23].map fun j => V.ref (cm j))) m4
      refine ⟨a, cm 23, dx, t4, _, _, _, true, rfl, ((z0.trans z2).trans z4) _ _ h1, ((z0.trans z2).trans z4) _ _ h2, T.ex 23 (by decide), upd_same, vals_refs cm [11, 12, 14, 18, 23], T.any (i := 23) (by decide) [11, 12, 14, 18, 23] (by decide), _, rfl, iteT ?_⟩
      exact ⟨.ref a, rfl, a, cm 23, dx, _, _, rfl, (((z0.trans z2).trans z4)) _ _ h1, (((z0.trans z2).trans z4)) _ _ h2, B.xf 23 (by decide), B.nw 23 (by decide) _ (by decide), rfl, (show (1 : Nat) ≤ sizeLine by decide), fun p np => q _ p ((((z0.trans z2).trans z4)).trans (same_upd np)) upd_same⟩
    | 24, _ =>
      obtain ⟨y0, rfl⟩ := ws_1 hl
      refine ⟨.ref a, rfl, (show (6 : Nat) ≤ sizeLine by decide), fun t0 m0 => ?_⟩
      have z0 := same_upd (o := .tup ([0, 1, 8, 19, 20, 22].map fun j => V.ref (cm j))) m0
      refine ⟨a, cm 24, dx, t0, _, _, _, false, rfl, z0 _ _ h1, z0 _ _ h2, T.ex 24 (by decide), upd_same, vals_refs cm [0, 1, 8, 19, 20, 22], T.any (i := 24) (by decide) [0, 1, 8, 19, 20, 22] (by decide), _, rfl, iteF ?_⟩
      refine ⟨.ref a, rfl, a, cm 24, dx, _, .ref (cm 2), .ref (cm 2), false, rfl, z0 _ _ h1, z0 _ _ h2, T.ex 24 (by decide), fun u r => r, T.sub 24 2 (by decide) (by decide), _, rfl, iteF ?_⟩
      refine ⟨.ref a, rfl, (show (2 : Nat) ≤ sizeLine by decide), fun t2 m2 => ?_⟩
      have z2 := same_upd (o := .tup ([3, 4].map fun j => V.ref (cm j))) m2
      refine ⟨a, cm 24, dx, t2, _, _, _, false, rfl, (z0.trans z2) _ _ h1, (z0.trans z2) _ _ h2, T.ex 24 (by decide), upd_same, vals_refs cm [3, 4], T.any (i := 24) (by decide) [3, 4] (by decide), _, rfl, iteF ?_⟩
      refine ⟨.ref a, rfl, a, cm 24, dx, _, .ref (cm 9), .ref (cm 9), false, rfl, (z0.trans z2) _ _ h1, (z0.trans z2) _ _ h2, T.ex 24 (by decide), fun u r => r, T.sub 24 9 (by decide) (by decide), _, rfl, iteF ?_⟩
      refine ⟨.ref a, rfl, (show (5 : Nat) ≤ sizeLine by decide), fun t4 m4 => ?_⟩
      have z4 := same_upd (o := .tup ([11, 12, 14, 18, 23].map fun j => V.ref (cm j))) m4
      refine ⟨a, cm 24, dx, t4, _, _, _, false, rfl, ((z0.trans z2).trans z4) _ _ h1, ((z0.trans z2).trans z4) _ _ h2, T.ex 24 (by decide), upd_same, vals_refs cm [11, 12, 14, 18, 23], T.any (i := 24) (by decide) [11, 12, 14, 18, 23] (by decide), _, rfl, iteF ?_⟩
      refine ⟨.ref a, rfl, (show (2 : Nat) ≤ sizeLine by decide), fun t5 m5 => ?_⟩
      have z5 := same_upd (o := .tup ([13, 24].map fun j => V.ref (cm j))) m5
      refine ⟨a, cm 24, dx, t5, _, _, _, true, rfl, (((z0.trans z2).trans z4).trans z5) _ _ h1, (((z0.trans z2).trans z4).trans z5) _ _ h2, T.ex 24 (by decide), upd_same, vals_refs cm [13, 24], T.any (i := 24) (by decide) [13, 24] (by decide), _, rfl, iteT ?_⟩
      exact ⟨.ref a, rfl, a, cm 24, dx, _, _, rfl, ((((z0.trans z2).trans z4).trans z5)) _ _ h1, ((((z0.trans z2).trans z4).trans z5)) _ _ h2, B.xf 24 (by decide), B.nw 24 (by decide) _ (by decide), rfl, (show (1 : Nat) ≤ sizeLine by decide), fun p np => q _ p (((((z0.trans z2).trans z4).trans z5)).trans (same_upd np)) upd_same⟩
    | 25, _ =>
      obtain ⟨y0, rfl⟩ := ws_1 hl
      refine ⟨.ref a, rfl, (show (6 : Nat) ≤ sizeLine by decide), fun t0 m0 => ?_⟩
      have z0 := same_upd (o := .tup ([0, 1, 8, 19, 20, 22].map fun j => V.ref (cm j))) m0
      refine ⟨a, cm 25, dx, t0, _, _, _, false, rfl, z0 _ _ h1, z0 _ _ h2, T.ex 25 (by decide), upd_same, vals_refs cm [0, 1, 8, 19, 20, 22], T.any (i := 25) (by decide) [0, 1, 8, 19, 20, 22] (by decide), _, rfl, iteF ?_⟩
      refine ⟨.ref a, rfl, a, cm 25, dx, _, .ref (cm 2), .ref (cm 2), false, rfl, z0 _ _ h1, z0 _ _ h2, T.ex 25 (by decide), fun u r => r, T.sub 25 2 (by decide) (by decide), _, rfl, iteF ?_⟩
      refine ⟨.ref a, rfl, (show (2 : Nat) ≤ sizeLine by decide), fun t2 m2 => ?_⟩
      have z2 := same_upd (o := .tup ([3, 4].map fun j => V.ref (cm j))) m2
      refine ⟨a, cm 25, dx, t2, _, _, _, false, rfl, (z0.trans z2) _ _ h1, (z0.trans z2) _ _ h2, T.ex 25 (by decide), upd_same, vals_refs cm [3, 4], T.any (i := 25) (by decide) [3, 4] (by decide), _, rfl, iteF ?_⟩
      refine ⟨.ref a, rfl, a, cm 25, dx, _, .ref (cm 9), .ref (cm 9), false, rfl, (z0.trans z2) _ _ h1, (z0.trans z2) _ _ h2, T.ex 25 (by decide), fun u r => r, T.sub 25 9 (by decide) (by decide), _, rfl, iteF ?_⟩
      refine ⟨.ref a, rfl, (show (5 : Nat) ≤ sizeLine by decide), fun t4 m4 => ?_⟩
      have z4 := same_upd (o := .tup ([11, 12, 14, 18, 23].map fun j => V.ref (cm j))) m4
      refine ⟨a, cm 25, dx, t4, _, _, _, false, rfl, ((z0.trans z2).trans z4) _ _ h1, ((z0.trans z2).trans z4) _ _ h2, T.ex 25 (by decide), upd_same, vals_refs cm [11, 12, 14, 18, 23], T.any (i := 25) (by decide) [11, 12, 14, 18, 23] (by decide), _, rfl, iteF ?_⟩
      refine ⟨.ref a, rfl, (show (2 : Nat) ≤ sizeLine by decide), fun t5 m5 => ?_⟩
      have z5 := same_upd (o := .tup ([13, 24].map fun j => V.ref (cm j))) m5
      refine ⟨a, cm 25, dx, t5, _, _, _, false, rfl, (((z0.trans z2).trans z4).trans z5) _ _ h1, (((z0.trans z2).trans z4).trans z5) _ _ h2, T.ex 25 (by decide), upd_same, vals_refs cm [13, 24], T.any (i := 25) (by decide) [13, 24] (by decide), _, rfl, iteF ?_⟩
      refine ⟨.ref a, rfl, a, cm 25, dx, _, .ref (cm 16), .ref (cm 16), false, rfl, (((z0.trans z2).trans z4).trans z5) _ _ h1, (((z0.trans z2).trans z4).trans z5) _ _ h2, T.ex 25 (by decide), fun u r => r, T.sub 25 16 (by decide) (by decide), _, rfl, iteF ?_⟩
      refine ⟨.ref a, rfl, a, cm 25, dx, _, .ref (cm 25), .ref (cm 25), true, rfl, (((z0.trans z2).trans z4).trans z5) _ _ h1, (((z0.trans z2).trans z4).trans z5) _ _ h2, T.ex 25 (by decide), fun u r => r, T.sub 25 25 (by decide) (by decide), _, rfl, iteT ?_⟩
      exact ⟨.ref a, rfl, a, cm 25, dx, _, _, rfl, ((((z0.trans z2).trans z4).trans z5)) _ _ h1, ((((z0.trans z2).trans z4).trans z5)) _ _ h2, B.xf 25 (by decide), B.nw 25 (by decide) _ (by decide), rfl, (show (1 : Nat) ≤ sizeLine by decide), fun p np => q _ p (((((z0.trans z2).trans z4).trans z5)).trans (same_upd np)) upd_same⟩
    | 26, _ =>
      obtain rfl := ws_0 hl
      refine ⟨.ref a, rfl, (show (6 : Nat) ≤ sizeLine by decide), fun t0 m0 => ?_⟩
      have z0 := same_upd (o := .tup ([0, 1, 8, 19, 20, 22].map fun j => V.ref (cm j))) m0
      refine ⟨a, cm 26, dx, t0, _, _, _, false, rfl, z0 _ _ h1, z0 _ _ h2, T.ex 26 (by decide), upd_same, vals_refs cm [0, 1, 8, 19, 20, 22], T.any (i := 26) (by decide) [0, 1, 8, 19, 20, 22] (by decide), _, rfl, iteF ?_⟩
      refine ⟨.ref a, rfl, a, cm 26, dx, _, .ref (cm 2), .ref (cm 2), false, rfl, z0 _ _ h1, z0 _ _ h2, T.ex 26 (by decide), fun u r => r, T.sub 26 2 (by decide) (by decide), _, rfl, iteF ?_⟩
      refine ⟨.ref a, rfl, (show (2 : Nat) ≤ sizeLine by decide), fun t2 m2 => ?_⟩
      have z2 := same_upd (o := .tup ([3, 4].map fun j => V.ref (cm j))) m2
      refine ⟨a, cm 26, dx, t2, _, _, _, false, rfl, (z0.trans z2) _ _ h1, (z0.trans z2) _ _ h2, T.ex 26 (by decide), upd_same, vals_refs cm [3, 4], T.any (i := 26) (by decide) [3, 4] (by decide), _, rfl, iteF ?_⟩
      refine ⟨.ref a, rfl, a, cm 26, dx, _, .ref (cm 9), .ref (cm 9), false, rfl, (z0.trans z2) _ _ h1, (z0.trans z2) _ _ h2, T.ex 26 (by decide), fun u r => r, T.sub 26 9 (by decide) (by decide), _, rfl, iteF ?_⟩
      refine ⟨.ref a, rfl, (show (5 : Nat) ≤ sizeLine by decide), fun t4 m4 => ?_⟩
      have z4 := same_upd (o := .tup ([11, 12, 14, 18, 23].map fun j => V.ref (cm j))) m4
      refine ⟨a, cm 26, dx, t4, _, _, _, false, rfl, ((z0.trans z2).trans z4) _ _ h1, ((z0.trans z2).trans z4) _ _ h2, T.ex 26 (by decide), upd_same, vals_refs cm [11, 12, 14, 18, 23], T.any (i := 26) (by decide) [11, 12, 14, 18, 23] (by decide), _, rfl, iteF ?_⟩
      refine ⟨.ref a, rfl, (show (2 : Nat) ≤ sizeLine by decide), fun t5 m5 => ?_⟩
      have z5 := same_upd (o := .tup ([13, 24].map fun j => V.ref (cm j))) m5
      refine ⟨a, cm 26, dx, t5, _, _, _, false, rfl, (((z0.trans z2).trans z4).trans z5) _ _ h1, (((z0.trans z2).trans z4).trans z5) _ _ h2, T.ex 26 (by decide), upd_same, vals_refs cm [13, 24], T.any (i := 26) (by decide) [13, 24] (by decide), _, rfl, iteF ?_⟩
      refine ⟨.ref a, rfl, a, cm 26, dx, _, .ref (cm 16), .ref (cm 16), false, rfl, (((z0.trans z2).trans z4).trans z5) _ _ h1, (((z0.trans z2).trans z4).trans z5) _ _ h2, T.ex 26 (by decide), fun u r => r, T.sub 26 16 (by decide) (by decide), _, rfl, iteF ?_⟩
      refine ⟨.ref a, rfl, a, cm 26, dx, _, .ref (cm 25), .ref (cm 25), false, rfl, (((z0.trans z2).trans z4).trans z5) _ _ h1, (((z0.trans z2).trans z4).trans z5) _ _ h2, T.ex 26 (by decide), fun u r => r, T.sub 26 25 (by decide) (by decide), _, rfl, iteF ?_⟩
      exact ⟨(show (0 : Nat) ≤ sizeLine by decide), fun p np => q _ p (((((z0.trans z2).trans z4).trans z5)).trans (same_upd np)) upd_same⟩
    | 27, _ =>
      obtain rfl := ws_0 hl
      refine ⟨.ref a, rfl, (show (6 : Nat) ≤ sizeLine by decide), fun t0 m0 => ?_⟩
      have z0 := same_upd (o := .tup ([0, 1, 8, 19, 20, 22].map fun j => V.ref (cm j))) m0
      refine ⟨a, cm 27, dx, t0, _, _, _, false, rfl, z0 _ _ h1, z0 _ _ h2, T.ex 27 (by decide), upd_same, vals_refs cm [0, 1, 8, 19, 20, 22], T.any (i := 27) (by decide) [0, 1, 8, 19, 20, 22] (by decide), _, rfl, iteF ?_⟩
      refine ⟨.ref a, rfl, a, cm 27, dx, _, .ref (cm 2), .ref (cm 2), false, rfl, z0 _ _ h1, z0 _ _ h2, T.ex 27 (by decide), fun u r => r, T.sub 27 2 (by decide) (by decide), _, rfl, iteF ?_⟩
      refine ⟨.ref a, rfl, (show (2 : Nat) ≤ sizeLine by decide), fun t2 m2 => ?_⟩
      have z2 := same_upd (o := .tup ([3, 4].map fun j => V.ref (cm j))) m2
      refine ⟨a, cm 27, dx, t2, _, _, _, false, rfl, (z0.trans z2) _ _ h1, (z0.trans z2) _ _ h2, T.ex 27 (by decide), upd_same, vals_refs cm [3, 4], T.any (i := 27) (by decide) [3, 4] (by decide), _, rfl, iteF ?_⟩
      refine ⟨.ref a, rfl, a, cm 27, dx, _, .ref (cm 9), .ref (cm 9), false, rfl, (z0.trans z2) _ _ h1, (z0.trans z2) _ _ h2, T.ex 27 (by decide), fun u r => r, T.sub 27 9 (by decide) (by decide), _, rfl, iteF ?_⟩
      refine ⟨.ref a, rfl, (show (5 : Nat) ≤ sizeLine by decide), fun t4 m4 => ?_⟩
      have z4 := same_upd (o := .tup ([11, 12, 14, 18, 23].map fun j => V.ref (cm j))) m4
      refine ⟨a, cm 27, dx, t4, _, _, _, false, rfl, ((z0.trans z2).trans z4) _ _ h1, ((z0.trans z2).trans z4) _ _ h2, T.ex 27 (by decide), upd_same, vals_refs cm [11, 12, 14, 18, 23], T.any (i := 27) (by decide) [11, 12, 14, 18, 23] (by decide), _, rfl, iteF ?_⟩
      refine ⟨.ref a, rfl, (show (2 : Nat) ≤ sizeLine by decide), fun t5 m5 => ?_⟩
      have z5 := same_upd (o := .tup ([13, 24].map fun j => V.ref (cm j))) m5
      refine ⟨a, cm 27, dx, t5, _, _, _, false, rfl, (((z0.trans z2).trans z4).trans z5) _ _ h1, (((z0.trans z2).trans z4).trans z5) _ _ h2, T.ex 27 (by decide), upd_same, vals_refs cm [13, 24], T.any (i := 27) (by decide) [13, 24] (by decide), _, rfl, iteF ?_⟩
      refine ⟨.ref a, rfl, a, cm 27, dx, _, .ref (cm 16), .ref (cm 16), false, rfl, (((z0.trans z2).trans z4).trans z5) _ _ h1, (((z0.trans z2).trans z4).trans z5) _ _ h2, T.ex 27 (by decide), fun u r => r, T.sub 27 16 (by decide) (by decide), _, rfl, iteF ?_⟩
      refine ⟨.ref a, rfl, a, cm 27, dx, _, .ref (cm 25), .ref (cm 25), false, rfl, (((z0.trans z2).trans z4).trans z5) _ _ h1, (((z0.trans z2).trans z4).trans z5) _ _ h2, T.ex 27 (by decide), fun u r => r, T.sub 27 25 (by decide) (by decide), _, rfl, iteF ?_⟩
      exact ⟨(show (0 : Nat) ≤ sizeLine by decide), fun p np => q _ p (((((z0.trans z2).trans z4).trans z5)).trans (same_upd np)) upd_same⟩
    | n + 28, hi => exact absurd hi (by omega)
end
/-! ### the law of k01 -/
theorem lk_flat {K : PySem.W.Frag} {H : Hp} {n : Nat} {a b : Addr} {xs : List V} (h1 : SqL K H a xs) (h2 : SqL K H b xs) (hl : xs.length ≤ 1000) (hf : ∀ x ∈ xs, x = .non ∨ (∃ b, x = .bl b) ∨ (∃ i, x = .int i) ∨ ∃ z, x = .str z) : Lk K H (n + 2) (.ref a) (.ref b) :=
  .inr ⟨a, b, xs, xs, rfl, rfl, .inl ⟨h1, h2⟩, rfl, hl, fun i x y hx hy => by
    rw [hx] at hy
    obtain rfl := Option.some.inj hy
    exact .inl ⟨rfl, hf x (List.mem_of_getElem? hx)⟩⟩
theorem rFl_one : ∀ i, i < 28 → i ≠ 2 → (rFl i).length ≤ 1 := by decide +kernel
theorem rFl_none : ∀ i, i < 28 → inV (.int (i : Nat)) [.int 5, .int 6, .int 7, .int 10, .int 15, .int 17, .int 21, .int 26, .int 27] = decide ((rFl i).length = 0) := by decide +kernel
theorem wsOf_len (n m : Int) {i : Nat} (hi : i < 28) : (wsOf n m i).length = (rFl i).length := by
  unfold wsOf
  by_cases e : i = 2
  · subst e
    rfl
  · rw [if_neg e]
    by_cases e2 : (rFl i).length = 0
    · rw [if_pos e2, e2]
      rfl
    · rw [if_neg e2]
      have := rFl_one i hi e
      show 1 = _
      omega
theorem wsOf_flat (n m : Int) (i : Nat) : ∀ x ∈ wsOf n m i, x = .non ∨ (∃ b, x = .bl b) ∨ (∃ i, x = .int i) ∨ ∃ z, x = .str z := by
  intro x hx
  unfold wsOf at hx
  split at hx
  · rcases List.mem_cons.mp hx with rfl | hx
    · exact .inr (.inr (.inl ⟨_, rfl⟩))
    · rw [List.mem_singleton.mp hx]
      exact .inr (.inr (.inl ⟨_, rfl⟩))
  · split at hx
    · cases hx
    · rw [List.mem_singleton.mp hx]
      exact .inr (.inr (.inl ⟨_, rfl⟩))
theorem word_of (ws : List V) : ∀ {i : Nat}, i < 28 → ws.length = (rFl i).length → (rFs i ws).lookup ("word" : Str) = some (V.str (rNm i)) := by
  intro i hi hl
  match i, hi, ws, hl with
  | 0, _, [_], _ => rfl
  | 1, _, [_], _ => rfl
  | 2, _, [_, _], _ => rfl
  | 3, _, [_], _ => rfl
  | 4, _, [_], _ => rfl
  | 5, _, [], _ => rfl
  | 6, _, [], _ => rfl
  | 7, _, [], _ => rfl
  | 8, _, [_], _ => rfl
  | 9, _, [_], _ => rfl
  | 10, _, [], _ => rfl
  | 11, _, [_], _ => rfl
  | 12, _, [_], _ => rfl
  | 13, _, [_], _ => rfl
  | 14, _, [_], _ => rfl
  | 15, _, [], _ => rfl
  | 16, _, [_], _ => rfl
  | 17, _, [], _ => rfl
  | 18, _, [_], _ => rfl
  | 19, _, [_], _ => rfl
  | 20, _, [_], _ => rfl
  | 21, _, [], _ => rfl
  | 22, _, [_], _ => rfl
  | 23, _, [_], _ => rfl
  | 24, _, [_], _ => rfl
  | 25, _, [_], _ => rfl
  | 26, _, [], _ => rfl
  | 27, _, [], _ => rfl
  | n + 28, hi, _, _ => omega
abbrev sLaw : Stmt := topS 40
abbrev nLaw : List Str := ["_law_script", "_law_bag_here", "_law_n", "_law_m", "_law_words", "_law_some", "_law_e", "_law_own", "_law_absent", "_law_values_here", "_law_at", "_law_k"]
theorem scLaw : FnScope nLaw ["_law_script"] (defScope sLaw) := ⟨rfl, rfl, rfl, by decide +kernel, rfl, by decide +kernel, by decide +kernel⟩
def spLaw (K : PySem.W.Frag) : Sp := fun vs H Q _ => ∃ (a : Addr) (ns : List Int), vs = [.ref a] ∧ SqL K H a (ns.map V.int) ∧ ns.length ≤ 63 ∧ ∀ H', Q (.bl true) H'
def wA : List Str := ["BadColours", "BadFigure", "Meeting", "TooMany", "TooFar", "BadOrder", "OtherColours"]
def wB : List Str := ["OtherBook", "BadRow", "BadNote", "BadBeneath", "Full", "NoEnd", "NotStanding"]
def wC : List Str := ["NeverClear", "BadDeed", "BadNumber", "NoBeginning", "Barred", "BadHeights", "BadWeights"]
def wD : List Str := ["NoMean", "BadText", "NoPad", "NoFigure", "NoNote", "NothingBack", "NothingAgain"]
theorem tA : Txt.split "BadColours BadFigure Meeting TooMany TooFar BadOrder OtherColours" " " = wA := by kernel_rfl
theorem tB : Txt.split "OtherBook BadRow BadNote BadBeneath Full NoEnd NotStanding" " " = wB := by kernel_rfl
theorem tC : Txt.split "NeverClear BadDeed BadNumber NoBeginning Barred BadHeights BadWeights" " " = wC := by kernel_rfl
theorem tD : Txt.split "NoMean BadText NoPad NoFigure NoNote NothingBack NothingAgain" " " = wD := by kernel_rfl
theorem wAll : ((wA.map V.str ++ wB.map V.str) ++ wC.map V.str) ++ wD.map V.str = rNms.map V.str := rfl
theorem word_at {i : Nat} (hi : i < 28) : (rNms.map V.str)[i]? = some (.str (rNm i)) := by
  have hl : i < rNms.length := hi
  rw [List.getElem?_map, List.getElem?_eq_getElem hl]
  unfold rNm
  rw [List.getD_eq_getElem?_getD, List.getElem?_eq_getElem hl]
  rfl
def Mid1 (n m : Int) (pw ps : Addr) (v : V) (i : Nat) (H0 : Hp) (b : Bool) : L2.St → Hp → Prop := fun σ H => ∃ (y0 y1 y7 y8 y9 y11 : Option V), σ = [y0, y1, some (.int n), some (.int m), some (.ref pw), some (.ref ps), some v, y7, y8, y9, some (.int (i : Nat)), y11] ∧ Same H0 H ∧
  (b = true → y7 = some (.bl (decide (i < 23))) ∧ y8 = some (.bl (decide (23 ≤ i) && decide (i < 26))))
section
variable {P : Program} {w : World} {K : PySem.W.Frag} {mg : Str → Option Value} {base : Heap}
theorem ok_law01 {f fB fP fR fK fF fN fV : Addr} {fd fdB fdP fdR fdK fdF fdN fdV : FuncData} {cm : Nat → Addr} {k : Nat} (F : Fun K "law" "law" sLaw f fd)
    (FB : Fun K "_law_bag" "_law_bag" sBag fB fdB) (bB : Binds K fdB ["_law_script"] []) (gB : mg "_law_bag" = some (.ref fB)) (GB : FnOk P w K mg base CX0 k fB fdB ["_law_script"] (spBag K))
    (FP : Fun K "_law_pull" "_law_pull" sPull fP fdP) (bP : Binds K fdP ["_law_bag_here", "_law_size"] []) (gP : mg "_law_pull" = some (.ref fP)) (GP : FnOk P w K mg base CX0 k fP fdP ["_law_bag_here", "_law_size"] spPull)
    (FR : Fun K "_law_refusals" "_law_refusals" sRefs fR fdR) (bR : Binds K fdR ["_law_n", "_law_m"] []) (gR : mg "_law_refusals" = some (.ref fR)) (GR : FnOk P w K mg base CX0 k fR fdR ["_law_n", "_law_m"] (spRefs cm))
    (FK : Fun K "_law_like" "_law_like" sLike fK fdK) (bK : Binds K fdK ["_law_one", "_law_due"] []) (gK : mg "_law_like" = some (.ref fK)) (GK : FnOk P w K mg base CX0 k fK fdK ["_law_one", "_law_due"] (spLike K 4))
    (FF : Fun K "_law_flags" "_law_flags" sFlags fF fdF) (bF : Binds K fdF ["_law_e"] []) (gF : mg "_law_flags" = some (.ref fF)) (GF : FnOk P w K mg base CX0 k fF fdF ["_law_e"] (spFlags cm))
    (FN : Fun K "_law_kin" "_law_kin" sKin fN fdN) (bN : Binds K fdN ["_law_e"] []) (gN : mg "_law_kin" = some (.ref fN)) (GN : FnOk P w K mg base CX0 k fN fdN ["_law_e"] (spKin cm))
    (FV : Fun K "_law_values" "_law_values" sVals fV fdV) (bV : Binds K fdV ["_law_e"] []) (gV : mg "_law_values" = some (.ref fV)) (GV : FnOk P w K mg base CX0 k fV fdV ["_law_e"] (spVals cm))
    (X : FldT K cm) (mr : mg "range" = none) : FnOk P w K mg base CX0 (k + 1) f fd ["_law_script"] (spLaw K) := by
  refine F.ok scLaw (fun vs H Q E h => ?_) (fun cdv A outer s H vs Q E hr h => ?_)
  · obtain ⟨a, ns, rfl, _⟩ := h
    rfl
  · obtain ⟨a, ns, rfl, hS, hlen, q⟩ := h
    refine ⟨_, pss_cons (ps_set (i := 1) scLaw.nd rfl (.inl rfl) (pe_call GB hr (by rfl) gB FB.kp bB .nil pass0 (pa_cons (pv 0) pa_nil)))
      (pss_cons (ps_par (i := 2) (j := 3) (by rfl) scLaw.nd rfl rfl (by decide) rfl rfl (pa_cons (pe_op op_sub (pe_call GP hr (by rfl) gP FP.kp bP .nil pass0 (pa_cons (pv 1) (pa_cons (pe_op op_pow pe_int pe_int) pa_nil))) pe_int) (pa_cons (pe_op op_add pe_int (pe_call GP hr (by rfl) gP FP.kp bP .nil pass0 (pa_cons (pv 1) (pa_cons (pe_op op_pow pe_int pe_int) pa_nil)))) pa_nil)) (by rfl))
      (pss_cons (ps_set (i := 4) scLaw.nd rfl (.inl rfl) (pe_split pe_str pe_str))
      (pss_cons (ps_set (i := 4) scLaw.nd rfl (.inl rfl) (pe_op op_cat (pv 4) (pe_split pe_str pe_str)))
      (pss_cons (ps_set (i := 4) scLaw.nd rfl (.inl rfl) (pe_op op_cat (pv 4) (pe_split pe_str pe_str)))
      (pss_cons (ps_set (i := 4) scLaw.nd rfl (.inl rfl) (pe_op op_cat (pv 4) (pe_split pe_str pe_str)))
      (pss_cons (ps_set (i := 5) scLaw.nd rfl (.inl rfl) (pe_call GR hr (by rfl) gR FR.kp bR .nil pass0 (pa_cons (pv 2) (pa_cons (pv 3) pa_nil))))
      (pss_cons (ps_for PassesOwn.never rfl (pi_range1 (by rfl) mr (pa_cons pe_int pa_nil)) (pg_name (i := 10) scLaw.nd rfl (.inr rfl))
        (pss_cons (ps_set (i := 6) scLaw.nd rfl (.inl rfl) (pe_ix ix_list (pv 5) (pv 10) (fun _ _ => rfl)))
        (C8.pss_cut (ps_if (PW.pt (pw_or (pt_not (pt_val (pe_call GK hr (by rfl) gK FK.kp bK .nil pass0 (pa_cons (pe_call GF hr (by rfl) gF FF.kp bF .nil pass0 (pa_cons (pv 6) pa_nil))
            (pa_cons (pe_lc (own := [("_law_k", 11)]) (g := gName 11) (tt := tYes) rfl scLaw.nd (pi_range1 (by rfl) mr (pa_cons pe_int pa_nil)) (blkOk_by (own := [("_law_k", 11)]) (N := nLaw) (sc := defScope sLaw) (by decide +kernel)) (fun _ _ _ _ _ => pg_name (i := 11) scLaw.nd rfl (Or.inl rfl)) (fun _ _ _ _ _ => pts_nil) (fun _ _ _ _ _ => pe_cmpR op_eq (pv 11) (pv 10) (nomark _))) pa_nil)))))
            (pw_or1 (pt_not (pt_val (pe_call GK hr (by rfl) gK FK.kp bK .nil pass0 (pa_cons (pe_fldV (pv 6)) (pa_cons (pe_ix ix_list (pv 4) (pv 10) (fun _ _ => rfl)) pa_nil))))))))
          (pss_one (ps_ret pe_bl)) pss_nil)
        (C8.pss_cut (ps_par (i := 7) (j := 8) (by rfl) scLaw.nd rfl rfl (by decide) rfl rfl (pa_cons (pe_cmpR op_lt (pv 10) pe_int (nomark _)) (pa_cons (pe_chain op_le op_lt pe_int (pv 10) pe_int) pa_nil)) (by rfl))
        (C8.pss_cut (ps_if (pt_not (pt_val (pe_call GK hr (by rfl) gK FK.kp bK .nil pass0 (pa_cons (pe_call GN hr (by rfl) gN FN.kp bN .nil pass0 (pa_cons (pv 6) pa_nil))
            (pa_cons (pe_lst (pa_cons (pv 7) (pa_cons (pv 8) (pa_cons (pe_cmpR op_gt (pv 10) pe_int (nomark _)) (pa_cons (pv 7) (pa_cons (pv 8) (pa_cons (pe_cmpR op_gt (pv 10) pe_int (nomark _)) pa_nil))))))) pa_nil)))))
          (pss_one (ps_ret pe_bl)) pss_nil)
        (C8.pss_cut (ps_set (i := 9) scLaw.nd rfl (.inl rfl) (pe_ifExp (pt_cmpR op_eq (pv 10) pe_int (nomark _)) (pe_lst (pa_cons (pv 2) (pa_cons (pv 3) pa_nil))) (pe_lst (pa_cons (pv 2) pa_nil))))
        (C8.pss_cut (ps_if (pt_cmpR (r := rIn K false) op_in_seq (pv 10) (pe_tup (pa_cons pe_int (pa_cons pe_int (pa_cons pe_int (pa_cons pe_int (pa_cons pe_int (pa_cons pe_int (pa_cons pe_int (pa_cons pe_int (pa_cons pe_int pa_nil)))))))))) (by rfl))
          (pss_one (ps_set (i := 9) scLaw.nd rfl (.inl rfl) (pe_lst pa_nil))) pss_nil)
        (pss_one (ps_if (pt_not (pt_val (pe_call GK hr (by rfl) gK FK.kp bK .nil pass0 (pa_cons (pe_call GV hr (by rfl) gV FV.kp bV .nil pass0 (pa_cons (pv 6) pa_nil)) (pa_cons (pv 9) pa_nil)))))
          (pss_one (ps_ret pe_bl)) pss_nil)))))))))
      (pss_one (ps_ret pe_bl))))))))), ?_⟩
    refine ⟨.ref a, rfl, a, ns, rfl, hS, hlen, fun H1 b c s1 hB _ => ?_⟩
    refine ⟨.ref b, rfl, 10, 9, rfl, rfl, ⟨by decide, by decide, by decide⟩, b, c, _, rfl, hB, by decide, by decide, fun H2 r off2 hB2 _ _ => ?_⟩
    refine ⟨_, _, rfl, rfl, .ref b, rfl, 10, 9, rfl, rfl, ⟨by decide, by decide, by decide⟩, b, c, _, rfl, hB2, by decide, by decide, fun H3 r2 off3 hB3 _ _ => ?_⟩
    refine ⟨_, _, rfl, rfl, _, _, rfl, ?_⟩
    refine ⟨⟨_, rfl⟩, _, _, rfl, rfl, rfl, by decide, fun p1 n1 => ?_⟩
    rw [tA]
    refine ⟨.ref p1, rfl, ⟨_, rfl⟩, _, _, rfl, rfl, rfl, by decide, fun p2 n2 => ?_⟩
    rw [tB]
    have u1 := same_upd (o := .lst (wB.map V.str)) n2
    refine ⟨p1, p2, _, _, rfl, rfl, u1 _ _ upd_same, upd_same, by decide, fun p3 n3 => ?_⟩
    refine ⟨.ref p3, rfl, ⟨_, rfl⟩, _, _, rfl, rfl, rfl, by decide, fun p4 n4 => ?_⟩
    rw [tC]
    have u2 := same_upd (o := .lst (wC.map V.str)) n4
    refine ⟨p3, p4, _, _, rfl, rfl, u2 _ _ upd_same, upd_same, by decide, fun p5 n5 => ?_⟩
    refine ⟨.ref p5, rfl, ⟨_, rfl⟩, _, _, rfl, rfl, rfl, by decide, fun p6 n6 => ?_⟩
    rw [tD]
    have u3 := same_upd (o := .lst (wD.map V.str)) n6
    refine ⟨p5, p6, _, _, rfl, rfl, u3 _ _ upd_same, upd_same, by decide, fun pw n7 => ?_⟩
    rw [wAll]
    refine ⟨.int (r - 5), rfl, .int (7 + r2), rfl, _, _, rfl, fun H0 ps rs s0 hs hrs hup => ?_⟩
    obtain ⟨n, hn⟩ : ∃ n, n = r - 5 := ⟨_, rfl⟩
    obtain ⟨m, hm⟩ : ∃ m, m = 7 + r2 := ⟨_, rfl⟩
    rw [← hn, ← hm] at hup
    have hpw := s0 _ _ (upd_same (a := pw) (o := .lst (rNms.map V.str)))
    clear n1 n2 n3 n4 n5 n6 n7 u1 u2 u3
    refine ⟨28, rfl, by decide, by decide, for_range (lo := 0) (n := 28) (fun i σ H' => ∃ (y0 y1 y6 y7 y8 y9 y10 y11 : Option V), σ = [y0, y1, some (.int n), some (.int m), some (.ref pw), some (.ref ps), y6, y7, y8, y9, y10, y11] ∧ Same H0 H') ⟨_, _, _, _, _, _, _, _, by rw [hn, hm]; rfl, Same.refl _⟩ ?_ ?_⟩
    · rintro i σ H' hi ⟨y0, y1, y6, y7, y8, y9, y10, y11, rfl, sm⟩
      rw [show (0 : Int) + (i : Int) = (i : Nat) by omega]
      have hv : i < rs.length := by omega
      have ev : rs[i]? = some rs[i] := List.getElem?_eq_getElem hv
      generalize rs[i] = v at ev
      have rv := hup i v ev
      refine ⟨.ref ps, rfl, .int (i : Nat), rfl, ps, rs, _, v, rfl, rfl, SqL.of (sm _ _ hs), atI_nat ev, ?_⟩
      refine ⟨Mid1 n m pw ps v i H0 false, ?_, ?_⟩
      · refine ⟨v, rfl, v, i, _, rfl, hi, rv.same sm, fun H4 d1 s4 hd1 => ?_⟩
        refine ⟨28, rfl, by decide, by decide, fun D nD => ?_⟩
        refine lc_range (lo := 0) (n := 28) (fun j H5 => Same H4 H5 ∧ H5 D = some (.lst ((List.range j).map fun (j : Nat) => V.bl (decide (V.int (0 + (j : Int)) = V.int (i : Nat)))))) ⟨same_upd nD, upd_same⟩ (fun j H5 hj hP => ?_) (fun H5 hP => ?_)
        · obtain ⟨s5, hD⟩ := hP
          refine ⟨rfl, yesT ⟨_, rfl, .int (i : Nat), rfl, rfl, _, hD, ?_, Same.offUpd s5 nD, ?_⟩⟩
          · rw [List.length_map, List.length_range]
            exact small1000 (by omega)
          · rw [upd_same, List.range_succ, List.map_append]
            rfl
        · obtain ⟨s5, hD⟩ := hP
          have ef : ((List.range 28).map fun (j : Nat) => V.bl (decide (V.int (0 + (j : Int)) = V.int (i : Nat)))) = flagsV i := by
            refine List.map_congr_left fun j _ => congrArg V.bl (decide_eq_decide.mpr ⟨fun z => ?_, fun z => ?_⟩)
            · have := V.int.inj z
              omega
            · rw [z]
              exact congrArg V.int (by omega)
          rw [ef] at hD
          refine ⟨.ref d1, .ref D, rfl, lk_flat (n := 2) (SqL.of (s5 _ _ hd1)) (SqL.of hD) (by unfold flagsV; rw [List.length_map, List.length_range]; decide) (fun x hx => ?_), fun H6 s6 => ⟨_, rfl, iteF ?_⟩⟩
          · obtain ⟨j, _, rfl⟩ := List.mem_map.mp hx
            exact .inr (.inl ⟨_, rfl⟩)
          have sm6 := ((sm.trans s4).trans s5).trans s6
          obtain ⟨ae, dx, rfl, e1, e2⟩ := rv.same sm6
          refine ⟨.ref ae, rfl, ae, cm i, dx, _, _, rfl, e1, e2, X.xf i hi, X.nw i hi "word" (List.mem_cons_self ..), word_of _ hi (wsOf_len n m hi), ?_⟩
          refine ⟨.ref pw, rfl, .int (i : Nat), rfl, pw, _, _, .str (rNm i), rfl, rfl, SqL.of (sm6 _ _ hpw), atI_nat (word_at hi), ?_⟩
          refine ⟨_, _, rfl, .inl ⟨rfl, .inr (.inr (.inr ⟨_, rfl⟩))⟩, fun H7 s7 => ⟨_, rfl, iteF ?_⟩⟩
          exact ⟨_, _, _, _, _, _, rfl, sm6.trans s7, fun z => nomatch z⟩
      · rintro σ1 H1' ⟨z0, z1, z7, z8, z9, z11, rfl, sm1, _⟩
        refine ⟨Mid1 n m pw ps v i H0 true, ?_, ?_⟩
        · refine ⟨.int (i : Nat), rfl, _, _, rfl, rfl, .int (i : Nat), rfl, _, _, rfl, rfl, _, rfl, ?_⟩
          refine ite2 (fun e => ?_) (fun e => ?_)
          · have e23 := of_decide_eq_true e
            refine ⟨_, _, rfl, rfl, _, _, rfl, _, _, _, _, _, _, rfl, sm1, fun _ => ⟨congrArg (fun z => some (V.bl z)) (decide_eq_decide.mpr (by omega)), congrArg (fun z => some (V.bl z)) ?_⟩⟩
            rw [decide_eq_true (show 23 ≤ i by omega), Bool.true_and]
            exact decide_eq_decide.mpr (by omega)
          · have e23 : ¬ (23 : Int) ≤ (i : Nat) := of_decide_eq_false (by cases z : decide ((23 : Int) ≤ (i : Nat)) with | false => rfl | true => exact absurd z e)
            refine ⟨_, _, rfl, _, _, _, _, _, _, rfl, sm1, fun _ => ⟨congrArg (fun z => some (V.bl z)) (decide_eq_decide.mpr (by omega)), congrArg (fun z => some (V.bl z)) ?_⟩⟩
            rw [decide_eq_false (show ¬ 23 ≤ i by omega), Bool.false_and]
        · rintro σ2 H2' ⟨z0, z1, z7, z8, z9, z11, rfl, sm2, hz⟩
          obtain ⟨rfl, rfl⟩ := hz rfl
          refine ⟨Mid1 n m pw ps v i H0 false, ?_, ?_⟩
          · refine ⟨v, rfl, v, i, _, rfl, hi, rv.same sm2, fun H4 d1 s4 hd1 => ?_⟩
            refine ⟨_, rfl, _, rfl, .int (i : Nat), rfl, _, _, rfl, rfl, _, rfl, _, rfl, .int (i : Nat), rfl, _, _, rfl, rfl, (show (6 : Nat) ≤ sizeLine by decide), fun d2 n2 => ?_⟩
            have eL : ([.bl (decide (i < 23)), .bl (decide (23 ≤ i) && decide (i < 26)), .bl (decide ((25 : Int) < (i : Nat))), .bl (decide (i < 23)), .bl (decide (23 ≤ i) && decide (i < 26)), .bl (decide ((25 : Int) < (i : Nat)))] : List V) = kinV i := by
              unfold kinV
              rw [show decide ((25 : Int) < (i : Nat)) = decide (25 < i) from decide_eq_decide.mpr (by omega)]
            have u := same_upd (o := .lst (kinV i)) n2
            rw [← eL] at u
            refine ⟨.ref d1, .ref d2, rfl, lk_flat (n := 2) (SqL.of (u _ _ hd1)) (SqL.of (by rw [← eL]; exact upd_same)) (show (6 : Nat) ≤ 1000 by decide) (fun x hx => ?_), fun H6 s6 => ⟨_, rfl, iteF ?_⟩⟩
            · unfold kinV at hx
              simp only [List.mem_cons, List.not_mem_nil, or_false] at hx
              rcases hx with rfl | rfl | rfl | rfl | rfl | rfl <;> exact .inr (.inl ⟨_, rfl⟩)
            exact ⟨_, _, _, _, _, _, rfl, ((sm2.trans s4).trans u).trans s6, fun z => nomatch z⟩
          · rintro σ3 H3' ⟨z0, z1, z7, z8, z9, z11, rfl, sm3, _⟩
            refine ⟨fun σ H => ∃ (y0 y1 y7 y8 y11 : Option V) (d : Addr), σ = [y0, y1, some (.int n), some (.int m), some (.ref pw), some (.ref ps), some v, y7, y8, some (.ref d), some (.int (i : Nat)), y11] ∧ Same H0 H ∧ H d = some (.lst (if i = 2 then [.int n, .int m] else [.int n])), ?_, ?_⟩
            · refine ⟨.int (i : Nat), rfl, rfl, _, rfl, ite2 (fun e => ?_) (fun e => ?_)⟩
              · have e2 : i = 2 := by
                  have := V.int.inj (of_decide_eq_true e)
                  omega
                refine ⟨_, rfl, _, rfl, (show (2 : Nat) ≤ sizeLine by decide), fun d nd => ⟨_, _, _, _, _, d, rfl, sm3.trans (same_upd nd), ?_⟩⟩
                rw [if_pos e2]
                exact upd_same
              · have e2 : i ≠ 2 := fun z => e (decide_eq_true (congrArg V.int (by omega)))
                refine ⟨_, rfl, (show (1 : Nat) ≤ sizeLine by decide), fun d nd => ⟨_, _, _, _, _, d, rfl, sm3.trans (same_upd nd), ?_⟩⟩
                rw [if_neg e2]
                exact upd_same
            · rintro σ4 H4' ⟨z0, z1, z7, z8, z11, d, rfl, sm4, hd⟩
              refine ⟨fun σ H => ∃ (y0 y1 y7 y8 y11 : Option V) (d : Addr), σ = [y0, y1, some (.int n), some (.int m), some (.ref pw), some (.ref ps), some v, y7, y8, some (.ref d), some (.int (i : Nat)), y11] ∧ Same H0 H ∧ H d = some (.lst (wsOf n m i)), ?_, ?_⟩
              · refine ⟨.int (i : Nat), rfl, (show (9 : Nat) ≤ sizeLine by decide), fun t nt => ?_⟩
                have ut := same_upd (o := .tup [.int 5, .int 6, .int 7, .int 10, .int 15, .int 17, .int 21, .int 26, .int 27]) nt
                refine ⟨t, _, rfl, .inr (SqT.of upd_same), rfl, rfl, _, rfl, ?_⟩
                show if inV (.int (i : Nat)) [.int 5, .int 6, .int 7, .int 10, .int 15, .int 17, .int 21, .int 26, .int 27] = true then _ else _
                rw [rFl_none i hi]
                refine ite2 (fun e => ?_) (fun e => ?_)
                · have e0 := of_decide_eq_true e
                  have e2 : i ≠ 2 := fun z => by
                    rw [z] at e0
                    cases e0
                  refine ⟨Nat.zero_le _, fun d2 nd2 => ⟨_, _, _, _, _, d2, rfl, (sm4.trans ut).trans (same_upd nd2), ?_⟩⟩
                  unfold wsOf
                  rw [if_neg e2, if_pos e0]
                  exact upd_same
                · have e0 : ¬ (rFl i).length = 0 := fun z => e (decide_eq_true z)
                  refine ⟨_, _, _, _, _, d, rfl, sm4.trans ut, ?_⟩
                  unfold wsOf
                  by_cases e2 : i = 2
                  · rw [if_pos e2]
                    rw [if_pos e2] at hd
                    exact ut _ _ hd
                  · rw [if_neg e2, if_neg e0]
                    rw [if_neg e2] at hd
                    exact ut _ _ hd
              · rintro σ5 H5' ⟨z0, z1, z7, z8, z11, d, rfl, sm5, hd⟩
                refine ⟨v, rfl, v, i, _, rfl, hi, rv.same sm5, wsOf_len n m hi, fun H6 d1 s6 hd1 => ?_⟩
                refine ⟨.ref d, rfl, .ref d1, .ref d, rfl, lk_flat (n := 2) (SqL.of hd1) (SqL.of (s6 _ _ hd)) ?_ (wsOf_flat n m i), fun H7 s7 => ⟨_, rfl, iteF ?_⟩⟩
                · rw [wsOf_len n m hi]
                  have : ∀ i, i < 28 → (rFl i).length ≤ 1000 := by decide +kernel
                  exact this i hi
                exact ⟨_, _, _, _, _, _, _, _, rfl, (sm5.trans s6).trans s7⟩
    · rintro σ H' ⟨y0, y1, y6, y7, y8, y9, y10, y11, rfl, sm⟩
      exact q _
end
/-! ### what the classes tell of one another, by one Bool -/
theorem ExcK.fs {P : Program} {w : World} {K : PySem.W.Frag} {mg : Str → Option Value} {base : Heap} {k : Nat} {nm : Str} {C : Addr} {n : Nat} {f g : List V → List (Str × V)} (h : ExcK P w K mg base k nm C n f) (e : ∀ ws : List V, ws.length = n → f ws = g ws) : ExcK P w K mg base k nm C n g := by
  obtain ⟨fI, fd, ps, i1, i2, i3, i4⟩ := h.init
  refine ⟨h.oex, h.mgC, fI, fd, ps, i1, i2, FnOk.imp i3 (fun vs H Q E z => ?_), i4⟩
  obtain ⟨a, ws, z1, z2, z3, z4⟩ := z
  exact ⟨a, ws, z1, z2, z3, fun dx H2 a1 a2 a3 a4 a5 => z4 dx H2 a1 a2 a3 a4 (by rw [a5, e ws z2])⟩
theorem fs0 {f g : List V → List (Str × V)} (e : f [] = g []) : ∀ ws : List V, ws.length = 0 → f ws = g ws := fun ws h => by
  rw [ws_0 h]
  exact e
theorem fs1 {f g : List V → List (Str × V)} (e : ∀ a, f [a] = g [a]) : ∀ ws : List V, ws.length = 1 → f ws = g ws := fun ws h => by
  obtain ⟨a, rfl⟩ := ws_1 h
  exact e a
theorem fs2 {f g : List V → List (Str × V)} (e : ∀ a b, f [a, b] = g [a, b]) : ∀ ws : List V, ws.length = 2 → f ws = g ws := fun ws h => by
  obtain ⟨a, b, rfl⟩ := ws_2 h
  exact e a b
def excCB (K : PySem.W.Frag) (C : Addr) : Bool := decide (PySem.W.findIn K (.ref C) "__class__" = some (some (.builtin "object.__class__"))) && (decide (PySem.W.specialIn K (.builtin "object.__class__") "__get__" = some (some (.builtin "getset_descriptor.__get__"))) && (decide (PySem.W.takesIn K (.builtin "object.__class__") = some true) && decide (PySem.W.mroIn K C (.type "object") = some true)))
def kinsB (K : PySem.W.Frag) : Bool := frL (rNms.map (He.ga K)) fun cs => frN (He.ga K "TearError") fun cT => frN (He.ga K "Missing") fun cM => frN (He.ga K "Stuck") fun cS => (List.range 28).all fun i => frN (cs.getD i 0) fun C =>
  xfB K C && (excCB K C && (((("word" : Str) :: rFl i).all fun f => He.eqO (PySem.W.findIn K (.ref C) f) (some none)) && (((List.range 28).all fun j => decide (PySem.W.kitOne K (.ref C) (.ref (cs.getD j 0)) = some (decide (i = j)))) &&
    (decide (PySem.W.kitOne K (.ref C) (.ref cT) = some (decide (i < 23))) && (decide (PySem.W.kitOne K (.ref C) (.ref cM) = some (decide (23 ≤ i) && decide (i < 26))) && (decide (PySem.W.kitOne K (.ref C) (.ref cS) = some (decide (25 < i))) &&
    (decide (PySem.W.kitOne K (.ref C) (.type "ValueError") = some (decide (i < 23))) && (decide (PySem.W.kitOne K (.ref C) (.type "LookupError") = some (decide (23 ≤ i) && decide (i < 26))) && decide (PySem.W.kitOne K (.ref C) (.type "RuntimeError") = some (decide (25 < i)))))))))))
abbrev cmOf (K : PySem.W.Frag) (i : Nat) : Addr := (rNms.map (He.ga K)).getD i 0
theorem cmOf_eq {K : PySem.W.Frag} {i : Nat} (hi : i < 28) : cmOf K i = He.ga K (rNm i) := by
  have hl : i < rNms.length := hi
  unfold cmOf rNm
  rw [List.getD_eq_getElem?_getD, List.getD_eq_getElem?_getD, List.getElem?_map, List.getElem?_eq_getElem hl]
  rfl
theorem kinsB_ok {K : PySem.W.Frag} {mg : Str → Option Value} (m : ∀ i, i < 28 → mg (rNm i) = some (.ref (He.ga K (rNm i)))) (mT : mg "TearError" = some (.ref (He.ga K "TearError"))) (mM : mg "Missing" = some (.ref (He.ga K "Missing"))) (mS : mg "Stuck" = some (.ref (He.ga K "Stuck")))
    (mV : mg "ValueError" = none) (mL : mg "LookupError" = none) (mR : mg "RuntimeError" = none) (h : kinsB K = true) : KinT K mg (cmOf K) ∧ FldT K (cmOf K) ∧ KinB K mg (cmOf K) (He.ga K "TearError") (He.ga K "Missing") (He.ga K "Stuck") := by
  unfold kinsB at h
  rw [frL_eq, frN_eq, frN_eq, frN_eq] at h
  have key := fun i (hi : i < 28) => (frN_eq _ _).symm.trans (List.all_eq_true.mp h i (List.mem_range.mpr hi))
  refine ⟨⟨fun i hi => by rw [cmOf_eq hi]; exact m i hi, fun i hi => ?_, fun i j hi hj => ?_⟩, ⟨fun i hi => ?_, fun i hi f hf => ?_⟩, ⟨mT, mM, mS, mV, mL, mR, fun i hi => ?_⟩⟩
  · obtain ⟨a, z⟩ := He.ba (key i hi)
    obtain ⟨b, z⟩ := He.ba z
    have x := xfB_ok a
    obtain ⟨b1, b⟩ := He.ba b
    obtain ⟨b2, b⟩ := He.ba b
    obtain ⟨b3, b4⟩ := He.ba b
    unfold xfB at a
    obtain ⟨a1, a⟩ := He.ba a
    obtain ⟨a2, a⟩ := He.ba a
    obtain ⟨a3, a4⟩ := He.ba a
    exact ⟨of_decide_eq_true a1, of_decide_eq_true a2, of_decide_eq_true a3, a4, of_decide_eq_true b1, of_decide_eq_true b2, of_decide_eq_true b3, of_decide_eq_true b4⟩
  · obtain ⟨_, z⟩ := He.ba (key i hi)
    obtain ⟨_, z⟩ := He.ba z
    obtain ⟨_, z⟩ := He.ba z
    obtain ⟨a, z⟩ := He.ba z
    exact of_decide_eq_true (List.all_eq_true.mp a j (List.mem_range.mpr hj))
  · exact xfB_ok (He.ba (key i hi)).1
  · obtain ⟨_, z⟩ := He.ba (key i hi)
    obtain ⟨_, z⟩ := He.ba z
    obtain ⟨a, z⟩ := He.ba z
    exact He.eqO_ok (List.all_eq_true.mp a f hf)
  · obtain ⟨_, z⟩ := He.ba (key i hi)
    obtain ⟨_, z⟩ := He.ba z
    obtain ⟨_, z⟩ := He.ba z
    obtain ⟨_, z⟩ := He.ba z
    obtain ⟨a1, z⟩ := He.ba z
    obtain ⟨a2, z⟩ := He.ba z
    obtain ⟨a3, z⟩ := He.ba z
    obtain ⟨a4, z⟩ := He.ba z
    obtain ⟨a5, a6⟩ := He.ba z
    exact ⟨of_decide_eq_true a1, of_decide_eq_true a2, of_decide_eq_true a3, of_decide_eq_true a4, of_decide_eq_true a5, of_decide_eq_true a6⟩
theorem exk_BadColours {P : Program} {w : World} {K : PySem.W.Frag} {mg : Str → Option Value} {base : Heap} {fd fdb : FuncData} (L : LeafK K "BadColours" "TearError" ["at"]) (F : Fun K "__init__" "BadColours.__init__" sI_BadColours (He.ma K (He.ga K "BadColours") "__init__") fd)
    (Fb : FunD K "__init__" "TearError.__init__" (defArgs sI_TearError) (defBody sI_TearError) (defScope sI_TearError) [.str "TearError"] [] (He.ma K (He.ga K "TearError") "__init__") fdb) (mX : mg "BadColours" = some (.ref (He.ga K "BadColours"))) (mb : mg "TearError" = some (.ref (He.ga K "TearError"))) {j : Nat} (hj : 2 ≤ j) :
    ExcK P w K mg base j "BadColours" (He.ga K "BadColours") 1 (fun ws => [("at", ws.getD 0 .non), ("word", .str "BadColours")]) := by
  obtain ⟨ds, vd, bb⟩ := Fb.binds1 (ps := ["self", "word"]) 2 1 (List.cons_ne_nil _ _) rfl (fun T kV doc pm an cdv ct us its l1 l2 => match us, its, l1, l2 with | [_, _], [_], _, _ => ⟨_, rfl, rfl⟩)
  have ed : ds = [] := List.eq_nil_of_length_eq_zero vd.length.symm
  subst ed
  have GB : FnOk P w K mg base CX0 1 _ _ ["self", "word"] (spBase K) := okI_TearError (k := 0) Fb
  have bX := F.binds (ps := ["self", "at"]) fun _ _ _ _ _ _ us hl => match us, hl with | [_, _], _ => rfl
  have GX := okI_BadColours (k := 1) F L.T (L.n "word" (List.mem_cons_self ..)) (L.n "at" (List.mem_cons_of_mem _ (List.mem_cons_self ..))) L.B GB bb mb
  exact ⟨L.T, mX, _, _, _, L.i, L.t, GX.mono hj, bX⟩
theorem exk_BadFigure {P : Program} {w : World} {K : PySem.W.Frag} {mg : Str → Option Value} {base : Heap} {fd fdb : FuncData} (L : LeafK K "BadFigure" "TearError" ["at"]) (F : Fun K "__init__" "BadFigure.__init__" sI_BadFigure (He.ma K (He.ga K "BadFigure") "__init__") fd)
    (Fb : FunD K "__init__" "TearError.__init__" (defArgs sI_TearError) (defBody sI_TearError) (defScope sI_TearError) [.str "TearError"] [] (He.ma K (He.ga K "TearError") "__init__") fdb) (mX : mg "BadFigure" = some (.ref (He.ga K "BadFigure"))) (mb : mg "TearError" = some (.ref (He.ga K "TearError"))) {j : Nat} (hj : 2 ≤ j) :
    ExcK P w K mg base j "BadFigure" (He.ga K "BadFigure") 1 (fun ws => [("at", ws.getD 0 .non), ("word", .str "BadFigure")]) := by
  obtain ⟨ds, vd, bb⟩ := Fb.binds1 (ps := ["self", "word"]) 2 1 (List.cons_ne_nil _ _) rfl (fun T kV doc pm an cdv ct us its l1 l2 => match us, its, l1, l2 with | [_, _], [_], _, _ => ⟨_, rfl, rfl⟩)
  have ed : ds = [] := List.eq_nil_of_length_eq_zero vd.length.symm
  subst ed
  have GB : FnOk P w K mg base CX0 1 _ _ ["self", "word"] (spBase K) := okI_TearError (k := 0) Fb
  have bX := F.binds (ps := ["self", "at"]) fun _ _ _ _ _ _ us hl => match us, hl with | [_, _], _ => rfl
  have GX := okI_BadFigure (k := 1) F L.T (L.n "word" (List.mem_cons_self ..)) (L.n "at" (List.mem_cons_of_mem _ (List.mem_cons_self ..))) L.B GB bb mb
  exact ⟨L.T, mX, _, _, _, L.i, L.t, GX.mono hj, bX⟩
theorem exk_Meeting {P : Program} {w : World} {K : PySem.W.Frag} {mg : Str → Option Value} {base : Heap} {fd fdb : FuncData} (L : LeafK K "Meeting" "TearError" ["one", "other"]) (F : Fun K "__init__" "Meeting.__init__" sI_Meeting (He.ma K (He.ga K "Meeting") "__init__") fd)
    (Fb : FunD K "__init__" "TearError.__init__" (defArgs sI_TearError) (defBody sI_TearError) (defScope sI_TearError) [.str "TearError"] [] (He.ma K (He.ga K "TearError") "__init__") fdb) (mX : mg "Meeting" = some (.ref (He.ga K "Meeting"))) (mb : mg "TearError" = some (.ref (He.ga K "TearError"))) {j : Nat} (hj : 2 ≤ j) :
    ExcK P w K mg base j "Meeting" (He.ga K "Meeting") 2 (fun ws => [("other", ws.getD 1 .non), ("one", ws.getD 0 .non), ("word", .str "Meeting")]) := by
  obtain ⟨ds, vd, bb⟩ := Fb.binds1 (ps := ["self", "word"]) 2 1 (List.cons_ne_nil _ _) rfl (fun T kV doc pm an cdv ct us its l1 l2 => match us, its, l1, l2 with | [_, _], [_], _, _ => ⟨_, rfl, rfl⟩)
  have ed : ds = [] := List.eq_nil_of_length_eq_zero vd.length.symm
  subst ed
  have GB : FnOk P w K mg base CX0 1 _ _ ["self", "word"] (spBase K) := okI_TearError (k := 0) Fb
  have bX := F.binds (ps := ["self", "one", "other"]) fun _ _ _ _ _ _ us hl => match us, hl with | [_, _, _], _ => rfl
  have GX := okI_Meeting (k := 1) F L.T (L.n "word" (List.mem_cons_self ..)) (L.n "one" (List.mem_cons_of_mem _ (List.mem_cons_self ..))) (L.n "other" (List.mem_cons_of_mem _ (List.mem_cons_of_mem _ (List.mem_cons_self ..)))) L.B GB bb mb
  exact ⟨L.T, mX, _, _, _, L.i, L.t, GX.mono hj, bX⟩
theorem exk_TooMany {P : Program} {w : World} {K : PySem.W.Frag} {mg : Str → Option Value} {base : Heap} {fd fdb : FuncData} (L : LeafK K "TooMany" "TearError" ["most"]) (F : Fun K "__init__" "TooMany.__init__" sI_TooMany (He.ma K (He.ga K "TooMany") "__init__") fd)
    (Fb : FunD K "__init__" "TearError.__init__" (defArgs sI_TearError) (defBody sI_TearError) (defScope sI_TearError) [.str "TearError"] [] (He.ma K (He.ga K "TearError") "__init__") fdb) (mX : mg "TooMany" = some (.ref (He.ga K "TooMany"))) (mb : mg "TearError" = some (.ref (He.ga K "TearError"))) {j : Nat} (hj : 2 ≤ j) :
    ExcK P w K mg base j "TooMany" (He.ga K "TooMany") 1 (fun ws => [("most", ws.getD 0 .non), ("word", .str "TooMany")]) := by
  obtain ⟨ds, vd, bb⟩ := Fb.binds1 (ps := ["self", "word"]) 2 1 (List.cons_ne_nil _ _) rfl (fun T kV doc pm an cdv ct us its l1 l2 => match us, its, l1, l2 with | [_, _], [_], _, _ => ⟨_, rfl, rfl⟩)
  have ed : ds = [] := List.eq_nil_of_length_eq_zero vd.length.symm
  subst ed
  have GB : FnOk P w K mg base CX0 1 _ _ ["self", "word"] (spBase K) := okI_TearError (k := 0) Fb
  have bX := F.binds (ps := ["self", "most"]) fun _ _ _ _ _ _ us hl => match us, hl with | [_, _], _ => rfl
  have GX := okI_TooMany (k := 1) F L.T (L.n "word" (List.mem_cons_self ..)) (L.n "most" (List.mem_cons_of_mem _ (List.mem_cons_self ..))) L.B GB bb mb
  exact ⟨L.T, mX, _, _, _, L.i, L.t, GX.mono hj, bX⟩
theorem exk_TooFar {P : Program} {w : World} {K : PySem.W.Frag} {mg : Str → Option Value} {base : Heap} {fd fdb : FuncData} (L : LeafK K "TooFar" "TearError" ["most"]) (F : Fun K "__init__" "TooFar.__init__" sI_TooFar (He.ma K (He.ga K "TooFar") "__init__") fd)
    (Fb : FunD K "__init__" "TearError.__init__" (defArgs sI_TearError) (defBody sI_TearError) (defScope sI_TearError) [.str "TearError"] [] (He.ma K (He.ga K "TearError") "__init__") fdb) (mX : mg "TooFar" = some (.ref (He.ga K "TooFar"))) (mb : mg "TearError" = some (.ref (He.ga K "TearError"))) {j : Nat} (hj : 2 ≤ j) :
    ExcK P w K mg base j "TooFar" (He.ga K "TooFar") 1 (fun ws => [("most", ws.getD 0 .non), ("word", .str "TooFar")]) := by
  obtain ⟨ds, vd, bb⟩ := Fb.binds1 (ps := ["self", "word"]) 2 1 (List.cons_ne_nil _ _) rfl (fun T kV doc pm an cdv ct us its l1 l2 => match us, its, l1, l2 with | [_, _], [_], _, _ => ⟨_, rfl, rfl⟩)
  have ed : ds = [] := List.eq_nil_of_length_eq_zero vd.length.symm
  subst ed
  have GB : FnOk P w K mg base CX0 1 _ _ ["self", "word"] (spBase K) := okI_TearError (k := 0) Fb
  have bX := F.binds (ps := ["self", "most"]) fun _ _ _ _ _ _ us hl => match us, hl with | [_, _], _ => rfl
  have GX := okI_TooFar (k := 1) F L.T (L.n "word" (List.mem_cons_self ..)) (L.n "most" (List.mem_cons_of_mem _ (List.mem_cons_self ..))) L.B GB bb mb
  exact ⟨L.T, mX, _, _, _, L.i, L.t, GX.mono hj, bX⟩
theorem exk_BadOrder {P : Program} {w : World} {K : PySem.W.Frag} {mg : Str → Option Value} {base : Heap} {fd fdb : FuncData} (L : LeafK K "BadOrder" "TearError" []) (F : Fun K "__init__" "BadOrder.__init__" sI_BadOrder (He.ma K (He.ga K "BadOrder") "__init__") fd)
    (Fb : FunD K "__init__" "TearError.__init__" (defArgs sI_TearError) (defBody sI_TearError) (defScope sI_TearError) [.str "TearError"] [] (He.ma K (He.ga K "TearError") "__init__") fdb) (mX : mg "BadOrder" = some (.ref (He.ga K "BadOrder"))) (mb : mg "TearError" = some (.ref (He.ga K "TearError"))) {j : Nat} (hj : 2 ≤ j) :
    ExcK P w K mg base j "BadOrder" (He.ga K "BadOrder") 0 (fun ws => [("word", .str "BadOrder")]) := by
  obtain ⟨ds, vd, bb⟩ := Fb.binds1 (ps := ["self", "word"]) 2 1 (List.cons_ne_nil _ _) rfl (fun T kV doc pm an cdv ct us its l1 l2 => match us, its, l1, l2 with | [_, _], [_], _, _ => ⟨_, rfl, rfl⟩)
  have ed : ds = [] := List.eq_nil_of_length_eq_zero vd.length.symm
  subst ed
  have GB : FnOk P w K mg base CX0 1 _ _ ["self", "word"] (spBase K) := okI_TearError (k := 0) Fb
  have bX := F.binds (ps := ["self"]) fun _ _ _ _ _ _ us hl => match us, hl with | [_], _ => rfl
  have GX := okI_BadOrder (k := 1) F L.T (L.n "word" (List.mem_cons_self ..)) L.B GB bb mb
  exact ⟨L.T, mX, _, _, _, L.i, L.t, GX.mono hj, bX⟩
theorem exk_OtherColours {P : Program} {w : World} {K : PySem.W.Frag} {mg : Str → Option Value} {base : Heap} {fd fdb : FuncData} (L : LeafK K "OtherColours" "TearError" []) (F : Fun K "__init__" "OtherColours.__init__" sI_OtherColours (He.ma K (He.ga K "OtherColours") "__init__") fd)
    (Fb : FunD K "__init__" "TearError.__init__" (defArgs sI_TearError) (defBody sI_TearError) (defScope sI_TearError) [.str "TearError"] [] (He.ma K (He.ga K "TearError") "__init__") fdb) (mX : mg "OtherColours" = some (.ref (He.ga K "OtherColours"))) (mb : mg "TearError" = some (.ref (He.ga K "TearError"))) {j : Nat} (hj : 2 ≤ j) :
    ExcK P w K mg base j "OtherColours" (He.ga K "OtherColours") 0 (fun ws => [("word", .str "OtherColours")]) := by
  obtain ⟨ds, vd, bb⟩ := Fb.binds1 (ps := ["self", "word"]) 2 1 (List.cons_ne_nil _ _) rfl (fun T kV doc pm an cdv ct us its l1 l2 => match us, its, l1, l2 with | [_, _], [_], _, _ => ⟨_, rfl, rfl⟩)
  have ed : ds = [] := List.eq_nil_of_length_eq_zero vd.length.symm
  subst ed
  have GB : FnOk P w K mg base CX0 1 _ _ ["self", "word"] (spBase K) := okI_TearError (k := 0) Fb
  have bX := F.binds (ps := ["self"]) fun _ _ _ _ _ _ us hl => match us, hl with | [_], _ => rfl
  have GX := okI_OtherColours (k := 1) F L.T (L.n "word" (List.mem_cons_self ..)) L.B GB bb mb
  exact ⟨L.T, mX, _, _, _, L.i, L.t, GX.mono hj, bX⟩
theorem exk_OtherBook {P : Program} {w : World} {K : PySem.W.Frag} {mg : Str → Option Value} {base : Heap} {fd fdb : FuncData} (L : LeafK K "OtherBook" "TearError" []) (F : Fun K "__init__" "OtherBook.__init__" sI_OtherBook (He.ma K (He.ga K "OtherBook") "__init__") fd)
    (Fb : FunD K "__init__" "TearError.__init__" (defArgs sI_TearError) (defBody sI_TearError) (defScope sI_TearError) [.str "TearError"] [] (He.ma K (He.ga K "TearError") "__init__") fdb) (mX : mg "OtherBook" = some (.ref (He.ga K "OtherBook"))) (mb : mg "TearError" = some (.ref (He.ga K "TearError"))) {j : Nat} (hj : 2 ≤ j) :
    ExcK P w K mg base j "OtherBook" (He.ga K "OtherBook") 0 (fun ws => [("word", .str "OtherBook")]) := by
  obtain ⟨ds, vd, bb⟩ := Fb.binds1 (ps := ["self", "word"]) 2 1 (List.cons_ne_nil _ _) rfl (fun T kV doc pm an cdv ct us its l1 l2 => match us, its, l1, l2 with | [_, _], [_], _, _ => ⟨_, rfl, rfl⟩)
  have ed : ds = [] := List.eq_nil_of_length_eq_zero vd.length.symm
  subst ed
  have GB : FnOk P w K mg base CX0 1 _ _ ["self", "word"] (spBase K) := okI_TearError (k := 0) Fb
  have bX := F.binds (ps := ["self"]) fun _ _ _ _ _ _ us hl => match us, hl with | [_], _ => rfl
  have GX := okI_OtherBook (k := 1) F L.T (L.n "word" (List.mem_cons_self ..)) L.B GB bb mb
  exact ⟨L.T, mX, _, _, _, L.i, L.t, GX.mono hj, bX⟩
theorem exk_BadRow {P : Program} {w : World} {K : PySem.W.Frag} {mg : Str → Option Value} {base : Heap} {fd fdb : FuncData} (L : LeafK K "BadRow" "TearError" ["at"]) (F : Fun K "__init__" "BadRow.__init__" sI_BadRow (He.ma K (He.ga K "BadRow") "__init__") fd)
    (Fb : FunD K "__init__" "TearError.__init__" (defArgs sI_TearError) (defBody sI_TearError) (defScope sI_TearError) [.str "TearError"] [] (He.ma K (He.ga K "TearError") "__init__") fdb) (mX : mg "BadRow" = some (.ref (He.ga K "BadRow"))) (mb : mg "TearError" = some (.ref (He.ga K "TearError"))) {j : Nat} (hj : 2 ≤ j) :
    ExcK P w K mg base j "BadRow" (He.ga K "BadRow") 1 (fun ws => [("at", ws.getD 0 .non), ("word", .str "BadRow")]) := by
  obtain ⟨ds, vd, bb⟩ := Fb.binds1 (ps := ["self", "word"]) 2 1 (List.cons_ne_nil _ _) rfl (fun T kV doc pm an cdv ct us its l1 l2 => match us, its, l1, l2 with | [_, _], [_], _, _ => ⟨_, rfl, rfl⟩)
  have ed : ds = [] := List.eq_nil_of_length_eq_zero vd.length.symm
  subst ed
  have GB : FnOk P w K mg base CX0 1 _ _ ["self", "word"] (spBase K) := okI_TearError (k := 0) Fb
  have bX := F.binds (ps := ["self", "at"]) fun _ _ _ _ _ _ us hl => match us, hl with | [_, _], _ => rfl
  have GX := okI_BadRow (k := 1) F L.T (L.n "word" (List.mem_cons_self ..)) (L.n "at" (List.mem_cons_of_mem _ (List.mem_cons_self ..))) L.B GB bb mb
  exact ⟨L.T, mX, _, _, _, L.i, L.t, GX.mono hj, bX⟩
theorem exk_BadNote {P : Program} {w : World} {K : PySem.W.Frag} {mg : Str → Option Value} {base : Heap} {fd fdb : FuncData} (L : LeafK K "BadNote" "TearError" ["note"]) (F : Fun K "__init__" "BadNote.__init__" sI_BadNote (He.ma K (He.ga K "BadNote") "__init__") fd)
    (Fb : FunD K "__init__" "TearError.__init__" (defArgs sI_TearError) (defBody sI_TearError) (defScope sI_TearError) [.str "TearError"] [] (He.ma K (He.ga K "TearError") "__init__") fdb) (mX : mg "BadNote" = some (.ref (He.ga K "BadNote"))) (mb : mg "TearError" = some (.ref (He.ga K "TearError"))) {j : Nat} (hj : 2 ≤ j) :
    ExcK P w K mg base j "BadNote" (He.ga K "BadNote") 1 (fun ws => [("note", ws.getD 0 .non), ("word", .str "BadNote")]) := by
  obtain ⟨ds, vd, bb⟩ := Fb.binds1 (ps := ["self", "word"]) 2 1 (List.cons_ne_nil _ _) rfl (fun T kV doc pm an cdv ct us its l1 l2 => match us, its, l1, l2 with | [_, _], [_], _, _ => ⟨_, rfl, rfl⟩)
  have ed : ds = [] := List.eq_nil_of_length_eq_zero vd.length.symm
  subst ed
  have GB : FnOk P w K mg base CX0 1 _ _ ["self", "word"] (spBase K) := okI_TearError (k := 0) Fb
  have bX := F.binds (ps := ["self", "note"]) fun _ _ _ _ _ _ us hl => match us, hl with | [_, _], _ => rfl
  have GX := okI_BadNote (k := 1) F L.T (L.n "word" (List.mem_cons_self ..)) (L.n "note" (List.mem_cons_of_mem _ (List.mem_cons_self ..))) L.B GB bb mb
  exact ⟨L.T, mX, _, _, _, L.i, L.t, GX.mono hj, bX⟩
theorem exk_BadBeneath {P : Program} {w : World} {K : PySem.W.Frag} {mg : Str → Option Value} {base : Heap} {fd fdb : FuncData} (L : LeafK K "BadBeneath" "TearError" []) (F : Fun K "__init__" "BadBeneath.__init__" sI_BadBeneath (He.ma K (He.ga K "BadBeneath") "__init__") fd)
    (Fb : FunD K "__init__" "TearError.__init__" (defArgs sI_TearError) (defBody sI_TearError) (defScope sI_TearError) [.str "TearError"] [] (He.ma K (He.ga K "TearError") "__init__") fdb) (mX : mg "BadBeneath" = some (.ref (He.ga K "BadBeneath"))) (mb : mg "TearError" = some (.ref (He.ga K "TearError"))) {j : Nat} (hj : 2 ≤ j) :
    ExcK P w K mg base j "BadBeneath" (He.ga K "BadBeneath") 0 (fun ws => [("word", .str "BadBeneath")]) := by
  obtain ⟨ds, vd, bb⟩ := Fb.binds1 (ps := ["self", "word"]) 2 1 (List.cons_ne_nil _ _) rfl (fun T kV doc pm an cdv ct us its l1 l2 => match us, its, l1, l2 with | [_, _], [_], _, _ => ⟨_, rfl, rfl⟩)
  have ed : ds = [] := List.eq_nil_of_length_eq_zero vd.length.symm
  subst ed
  have GB : FnOk P w K mg base CX0 1 _ _ ["self", "word"] (spBase K) := okI_TearError (k := 0) Fb
  have bX := F.binds (ps := ["self"]) fun _ _ _ _ _ _ us hl => match us, hl with | [_], _ => rfl
  have GX := okI_BadBeneath (k := 1) F L.T (L.n "word" (List.mem_cons_self ..)) L.B GB bb mb
  exact ⟨L.T, mX, _, _, _, L.i, L.t, GX.mono hj, bX⟩
theorem exk_Full {P : Program} {w : World} {K : PySem.W.Frag} {mg : Str → Option Value} {base : Heap} {fd fdb : FuncData} (L : LeafK K "Full" "TearError" ["pad"]) (F : Fun K "__init__" "Full.__init__" sI_Full (He.ma K (He.ga K "Full") "__init__") fd)
    (Fb : FunD K "__init__" "TearError.__init__" (defArgs sI_TearError) (defBody sI_TearError) (defScope sI_TearError) [.str "TearError"] [] (He.ma K (He.ga K "TearError") "__init__") fdb) (mX : mg "Full" = some (.ref (He.ga K "Full"))) (mb : mg "TearError" = some (.ref (He.ga K "TearError"))) {j : Nat} (hj : 2 ≤ j) :
    ExcK P w K mg base j "Full" (He.ga K "Full") 1 (fun ws => [("pad", ws.getD 0 .non), ("word", .str "Full")]) := by
  obtain ⟨ds, vd, bb⟩ := Fb.binds1 (ps := ["self", "word"]) 2 1 (List.cons_ne_nil _ _) rfl (fun T kV doc pm an cdv ct us its l1 l2 => match us, its, l1, l2 with | [_, _], [_], _, _ => ⟨_, rfl, rfl⟩)
  have ed : ds = [] := List.eq_nil_of_length_eq_zero vd.length.symm
  subst ed
  have GB : FnOk P w K mg base CX0 1 _ _ ["self", "word"] (spBase K) := okI_TearError (k := 0) Fb
  have bX := F.binds (ps := ["self", "pad"]) fun _ _ _ _ _ _ us hl => match us, hl with | [_, _], _ => rfl
  have GX := okI_Full (k := 1) F L.T (L.n "word" (List.mem_cons_self ..)) (L.n "pad" (List.mem_cons_of_mem _ (List.mem_cons_self ..))) L.B GB bb mb
  exact ⟨L.T, mX, _, _, _, L.i, L.t, GX.mono hj, bX⟩
theorem exk_NoEnd {P : Program} {w : World} {K : PySem.W.Frag} {mg : Str → Option Value} {base : Heap} {fd fdb : FuncData} (L : LeafK K "NoEnd" "TearError" ["pad"]) (F : Fun K "__init__" "NoEnd.__init__" sI_NoEnd (He.ma K (He.ga K "NoEnd") "__init__") fd)
    (Fb : FunD K "__init__" "TearError.__init__" (defArgs sI_TearError) (defBody sI_TearError) (defScope sI_TearError) [.str "TearError"] [] (He.ma K (He.ga K "TearError") "__init__") fdb) (mX : mg "NoEnd" = some (.ref (He.ga K "NoEnd"))) (mb : mg "TearError" = some (.ref (He.ga K "TearError"))) {j : Nat} (hj : 2 ≤ j) :
    ExcK P w K mg base j "NoEnd" (He.ga K "NoEnd") 1 (fun ws => [("pad", ws.getD 0 .non), ("word", .str "NoEnd")]) := by
  obtain ⟨ds, vd, bb⟩ := Fb.binds1 (ps := ["self", "word"]) 2 1 (List.cons_ne_nil _ _) rfl (fun T kV doc pm an cdv ct us its l1 l2 => match us, its, l1, l2 with | [_, _], [_], _, _ => ⟨_, rfl, rfl⟩)
  have ed : ds = [] := List.eq_nil_of_length_eq_zero vd.length.symm
  subst ed
  have GB : FnOk P w K mg base CX0 1 _ _ ["self", "word"] (spBase K) := okI_TearError (k := 0) Fb
  have bX := F.binds (ps := ["self", "pad"]) fun _ _ _ _ _ _ us hl => match us, hl with | [_, _], _ => rfl
  have GX := okI_NoEnd (k := 1) F L.T (L.n "word" (List.mem_cons_self ..)) (L.n "pad" (List.mem_cons_of_mem _ (List.mem_cons_self ..))) L.B GB bb mb
  exact ⟨L.T, mX, _, _, _, L.i, L.t, GX.mono hj, bX⟩
theorem exk_NotStanding {P : Program} {w : World} {K : PySem.W.Frag} {mg : Str → Option Value} {base : Heap} {fd fdb : FuncData} (L : LeafK K "NotStanding" "TearError" ["figure"]) (F : Fun K "__init__" "NotStanding.__init__" sI_NotStanding (He.ma K (He.ga K "NotStanding") "__init__") fd)
    (Fb : FunD K "__init__" "TearError.__init__" (defArgs sI_TearError) (defBody sI_TearError) (defScope sI_TearError) [.str "TearError"] [] (He.ma K (He.ga K "TearError") "__init__") fdb) (mX : mg "NotStanding" = some (.ref (He.ga K "NotStanding"))) (mb : mg "TearError" = some (.ref (He.ga K "TearError"))) {j : Nat} (hj : 2 ≤ j) :
    ExcK P w K mg base j "NotStanding" (He.ga K "NotStanding") 1 (fun ws => [("figure", ws.getD 0 .non), ("word", .str "NotStanding")]) := by
  obtain ⟨ds, vd, bb⟩ := Fb.binds1 (ps := ["self", "word"]) 2 1 (List.cons_ne_nil _ _) rfl (fun T kV doc pm an cdv ct us its l1 l2 => match us, its, l1, l2 with | [_, _], [_], _, _ => ⟨_, rfl, rfl⟩)
  have ed : ds = [] := List.eq_nil_of_length_eq_zero vd.length.symm
  subst ed
  have GB : FnOk P w K mg base CX0 1 _ _ ["self", "word"] (spBase K) := okI_TearError (k := 0) Fb
  have bX := F.binds (ps := ["self", "figure"]) fun _ _ _ _ _ _ us hl => match us, hl with | [_, _], _ => rfl
  have GX := okI_NotStanding (k := 1) F L.T (L.n "word" (List.mem_cons_self ..)) (L.n "figure" (List.mem_cons_of_mem _ (List.mem_cons_self ..))) L.B GB bb mb
  exact ⟨L.T, mX, _, _, _, L.i, L.t, GX.mono hj, bX⟩
theorem exk_NeverClear {P : Program} {w : World} {K : PySem.W.Frag} {mg : Str → Option Value} {base : Heap} {fd fdb : FuncData} (L : LeafK K "NeverClear" "TearError" ["pad"]) (F : Fun K "__init__" "NeverClear.__init__" sI_NeverClear (He.ma K (He.ga K "NeverClear") "__init__") fd)
    (Fb : FunD K "__init__" "TearError.__init__" (defArgs sI_TearError) (defBody sI_TearError) (defScope sI_TearError) [.str "TearError"] [] (He.ma K (He.ga K "TearError") "__init__") fdb) (mX : mg "NeverClear" = some (.ref (He.ga K "NeverClear"))) (mb : mg "TearError" = some (.ref (He.ga K "TearError"))) {j : Nat} (hj : 2 ≤ j) :
    ExcK P w K mg base j "NeverClear" (He.ga K "NeverClear") 1 (fun ws => [("pad", ws.getD 0 .non), ("word", .str "NeverClear")]) := by
  obtain ⟨ds, vd, bb⟩ := Fb.binds1 (ps := ["self", "word"]) 2 1 (List.cons_ne_nil _ _) rfl (fun T kV doc pm an cdv ct us its l1 l2 => match us, its, l1, l2 with | [_, _], [_], _, _ => ⟨_, rfl, rfl⟩)
  have ed : ds = [] := List.eq_nil_of_length_eq_zero vd.length.symm
  subst ed
  have GB : FnOk P w K mg base CX0 1 _ _ ["self", "word"] (spBase K) := okI_TearError (k := 0) Fb
  have bX := F.binds (ps := ["self", "pad"]) fun _ _ _ _ _ _ us hl => match us, hl with | [_, _], _ => rfl
  have GX := okI_NeverClear (k := 1) F L.T (L.n "word" (List.mem_cons_self ..)) (L.n "pad" (List.mem_cons_of_mem _ (List.mem_cons_self ..))) L.B GB bb mb
  exact ⟨L.T, mX, _, _, _, L.i, L.t, GX.mono hj, bX⟩
theorem exk_BadDeed {P : Program} {w : World} {K : PySem.W.Frag} {mg : Str → Option Value} {base : Heap} {fd fdb : FuncData} (L : LeafK K "BadDeed" "TearError" []) (F : Fun K "__init__" "BadDeed.__init__" sI_BadDeed (He.ma K (He.ga K "BadDeed") "__init__") fd)
    (Fb : FunD K "__init__" "TearError.__init__" (defArgs sI_TearError) (defBody sI_TearError) (defScope sI_TearError) [.str "TearError"] [] (He.ma K (He.ga K "TearError") "__init__") fdb) (mX : mg "BadDeed" = some (.ref (He.ga K "BadDeed"))) (mb : mg "TearError" = some (.ref (He.ga K "TearError"))) {j : Nat} (hj : 2 ≤ j) :
    ExcK P w K mg base j "BadDeed" (He.ga K "BadDeed") 0 (fun ws => [("word", .str "BadDeed")]) := by
  obtain ⟨ds, vd, bb⟩ := Fb.binds1 (ps := ["self", "word"]) 2 1 (List.cons_ne_nil _ _) rfl (fun T kV doc pm an cdv ct us its l1 l2 => match us, its, l1, l2 with | [_, _], [_], _, _ => ⟨_, rfl, rfl⟩)
  have ed : ds = [] := List.eq_nil_of_length_eq_zero vd.length.symm
  subst ed
  have GB : FnOk P w K mg base CX0 1 _ _ ["self", "word"] (spBase K) := okI_TearError (k := 0) Fb
  have bX := F.binds (ps := ["self"]) fun _ _ _ _ _ _ us hl => match us, hl with | [_], _ => rfl
  have GX := okI_BadDeed (k := 1) F L.T (L.n "word" (List.mem_cons_self ..)) L.B GB bb mb
  exact ⟨L.T, mX, _, _, _, L.i, L.t, GX.mono hj, bX⟩
theorem exk_BadNumber {P : Program} {w : World} {K : PySem.W.Frag} {mg : Str → Option Value} {base : Heap} {fd fdb : FuncData} (L : LeafK K "BadNumber" "TearError" ["number"]) (F : Fun K "__init__" "BadNumber.__init__" sI_BadNumber (He.ma K (He.ga K "BadNumber") "__init__") fd)
    (Fb : FunD K "__init__" "TearError.__init__" (defArgs sI_TearError) (defBody sI_TearError) (defScope sI_TearError) [.str "TearError"] [] (He.ma K (He.ga K "TearError") "__init__") fdb) (mX : mg "BadNumber" = some (.ref (He.ga K "BadNumber"))) (mb : mg "TearError" = some (.ref (He.ga K "TearError"))) {j : Nat} (hj : 2 ≤ j) :
    ExcK P w K mg base j "BadNumber" (He.ga K "BadNumber") 1 (fun ws => [("number", ws.getD 0 .non), ("word", .str "BadNumber")]) := by
  obtain ⟨ds, vd, bb⟩ := Fb.binds1 (ps := ["self", "word"]) 2 1 (List.cons_ne_nil _ _) rfl (fun T kV doc pm an cdv ct us its l1 l2 => match us, its, l1, l2 with | [_, _], [_], _, _ => ⟨_, rfl, rfl⟩)
  have ed : ds = [] := List.eq_nil_of_length_eq_zero vd.length.symm
  subst ed
  have GB : FnOk P w K mg base CX0 1 _ _ ["self", "word"] (spBase K) := okI_TearError (k := 0) Fb
  have bX := F.binds (ps := ["self", "number"]) fun _ _ _ _ _ _ us hl => match us, hl with | [_, _], _ => rfl
  have GX := okI_BadNumber (k := 1) F L.T (L.n "word" (List.mem_cons_self ..)) (L.n "number" (List.mem_cons_of_mem _ (List.mem_cons_self ..))) L.B GB bb mb
  exact ⟨L.T, mX, _, _, _, L.i, L.t, GX.mono hj, bX⟩
theorem exk_NoBeginning {P : Program} {w : World} {K : PySem.W.Frag} {mg : Str → Option Value} {base : Heap} {fd fdb : FuncData} (L : LeafK K "NoBeginning" "TearError" []) (F : Fun K "__init__" "NoBeginning.__init__" sI_NoBeginning (He.ma K (He.ga K "NoBeginning") "__init__") fd)
    (Fb : FunD K "__init__" "TearError.__init__" (defArgs sI_TearError) (defBody sI_TearError) (defScope sI_TearError) [.str "TearError"] [] (He.ma K (He.ga K "TearError") "__init__") fdb) (mX : mg "NoBeginning" = some (.ref (He.ga K "NoBeginning"))) (mb : mg "TearError" = some (.ref (He.ga K "TearError"))) {j : Nat} (hj : 2 ≤ j) :
    ExcK P w K mg base j "NoBeginning" (He.ga K "NoBeginning") 0 (fun ws => [("word", .str "NoBeginning")]) := by
  obtain ⟨ds, vd, bb⟩ := Fb.binds1 (ps := ["self", "word"]) 2 1 (List.cons_ne_nil _ _) rfl (fun T kV doc pm an cdv ct us its l1 l2 => match us, its, l1, l2 with | [_, _], [_], _, _ => ⟨_, rfl, rfl⟩)
  have ed : ds = [] := List.eq_nil_of_length_eq_zero vd.length.symm
  subst ed
  have GB : FnOk P w K mg base CX0 1 _ _ ["self", "word"] (spBase K) := okI_TearError (k := 0) Fb
  have bX := F.binds (ps := ["self"]) fun _ _ _ _ _ _ us hl => match us, hl with | [_], _ => rfl
  have GX := okI_NoBeginning (k := 1) F L.T (L.n "word" (List.mem_cons_self ..)) L.B GB bb mb
  exact ⟨L.T, mX, _, _, _, L.i, L.t, GX.mono hj, bX⟩
theorem exk_Barred {P : Program} {w : World} {K : PySem.W.Frag} {mg : Str → Option Value} {base : Heap} {fd fdb : FuncData} (L : LeafK K "Barred" "TearError" ["pad"]) (F : Fun K "__init__" "Barred.__init__" sI_Barred (He.ma K (He.ga K "Barred") "__init__") fd)
    (Fb : FunD K "__init__" "TearError.__init__" (defArgs sI_TearError) (defBody sI_TearError) (defScope sI_TearError) [.str "TearError"] [] (He.ma K (He.ga K "TearError") "__init__") fdb) (mX : mg "Barred" = some (.ref (He.ga K "Barred"))) (mb : mg "TearError" = some (.ref (He.ga K "TearError"))) {j : Nat} (hj : 2 ≤ j) :
    ExcK P w K mg base j "Barred" (He.ga K "Barred") 1 (fun ws => [("pad", ws.getD 0 .non), ("word", .str "Barred")]) := by
  obtain ⟨ds, vd, bb⟩ := Fb.binds1 (ps := ["self", "word"]) 2 1 (List.cons_ne_nil _ _) rfl (fun T kV doc pm an cdv ct us its l1 l2 => match us, its, l1, l2 with | [_, _], [_], _, _ => ⟨_, rfl, rfl⟩)
  have ed : ds = [] := List.eq_nil_of_length_eq_zero vd.length.symm
  subst ed
  have GB : FnOk P w K mg base CX0 1 _ _ ["self", "word"] (spBase K) := okI_TearError (k := 0) Fb
  have bX := F.binds (ps := ["self", "pad"]) fun _ _ _ _ _ _ us hl => match us, hl with | [_, _], _ => rfl
  have GX := okI_Barred (k := 1) F L.T (L.n "word" (List.mem_cons_self ..)) (L.n "pad" (List.mem_cons_of_mem _ (List.mem_cons_self ..))) L.B GB bb mb
  exact ⟨L.T, mX, _, _, _, L.i, L.t, GX.mono hj, bX⟩
theorem exk_BadHeights {P : Program} {w : World} {K : PySem.W.Frag} {mg : Str → Option Value} {base : Heap} {fd fdb : FuncData} (L : LeafK K "BadHeights" "TearError" ["at"]) (F : Fun K "__init__" "BadHeights.__init__" sI_BadHeights (He.ma K (He.ga K "BadHeights") "__init__") fd)
    (Fb : FunD K "__init__" "TearError.__init__" (defArgs sI_TearError) (defBody sI_TearError) (defScope sI_TearError) [.str "TearError"] [] (He.ma K (He.ga K "TearError") "__init__") fdb) (mX : mg "BadHeights" = some (.ref (He.ga K "BadHeights"))) (mb : mg "TearError" = some (.ref (He.ga K "TearError"))) {j : Nat} (hj : 2 ≤ j) :
    ExcK P w K mg base j "BadHeights" (He.ga K "BadHeights") 1 (fun ws => [("at", ws.getD 0 .non), ("word", .str "BadHeights")]) := by
  obtain ⟨ds, vd, bb⟩ := Fb.binds1 (ps := ["self", "word"]) 2 1 (List.cons_ne_nil _ _) rfl (fun T kV doc pm an cdv ct us its l1 l2 => match us, its, l1, l2 with | [_, _], [_], _, _ => ⟨_, rfl, rfl⟩)
  have ed : ds = [] := List.eq_nil_of_length_eq_zero vd.length.symm
  subst ed
  have GB : FnOk P w K mg base CX0 1 _ _ ["self", "word"] (spBase K) := okI_TearError (k := 0) Fb
  have bX := F.binds (ps := ["self", "at"]) fun _ _ _ _ _ _ us hl => match us, hl with | [_, _], _ => rfl
  have GX := okI_BadHeights (k := 1) F L.T (L.n "word" (List.mem_cons_self ..)) (L.n "at" (List.mem_cons_of_mem _ (List.mem_cons_self ..))) L.B GB bb mb
  exact ⟨L.T, mX, _, _, _, L.i, L.t, GX.mono hj, bX⟩
theorem exk_BadWeights {P : Program} {w : World} {K : PySem.W.Frag} {mg : Str → Option Value} {base : Heap} {fd fdb : FuncData} (L : LeafK K "BadWeights" "TearError" ["at"]) (F : Fun K "__init__" "BadWeights.__init__" sI_BadWeights (He.ma K (He.ga K "BadWeights") "__init__") fd)
    (Fb : FunD K "__init__" "TearError.__init__" (defArgs sI_TearError) (defBody sI_TearError) (defScope sI_TearError) [.str "TearError"] [] (He.ma K (He.ga K "TearError") "__init__") fdb) (mX : mg "BadWeights" = some (.ref (He.ga K "BadWeights"))) (mb : mg "TearError" = some (.ref (He.ga K "TearError"))) {j : Nat} (hj : 2 ≤ j) :
    ExcK P w K mg base j "BadWeights" (He.ga K "BadWeights") 1 (fun ws => [("at", ws.getD 0 .non), ("word", .str "BadWeights")]) := by
  obtain ⟨ds, vd, bb⟩ := Fb.binds1 (ps := ["self", "word"]) 2 1 (List.cons_ne_nil _ _) rfl (fun T kV doc pm an cdv ct us its l1 l2 => match us, its, l1, l2 with | [_, _], [_], _, _ => ⟨_, rfl, rfl⟩)
  have ed : ds = [] := List.eq_nil_of_length_eq_zero vd.length.symm
  subst ed
  have GB : FnOk P w K mg base CX0 1 _ _ ["self", "word"] (spBase K) := okI_TearError (k := 0) Fb
  have bX := F.binds (ps := ["self", "at"]) fun _ _ _ _ _ _ us hl => match us, hl with | [_, _], _ => rfl
  have GX := okI_BadWeights (k := 1) F L.T (L.n "word" (List.mem_cons_self ..)) (L.n "at" (List.mem_cons_of_mem _ (List.mem_cons_self ..))) L.B GB bb mb
  exact ⟨L.T, mX, _, _, _, L.i, L.t, GX.mono hj, bX⟩
theorem exk_NoMean {P : Program} {w : World} {K : PySem.W.Frag} {mg : Str → Option Value} {base : Heap} {fd fdb : FuncData} (L : LeafK K "NoMean" "TearError" []) (F : Fun K "__init__" "NoMean.__init__" sI_NoMean (He.ma K (He.ga K "NoMean") "__init__") fd)
    (Fb : FunD K "__init__" "TearError.__init__" (defArgs sI_TearError) (defBody sI_TearError) (defScope sI_TearError) [.str "TearError"] [] (He.ma K (He.ga K "TearError") "__init__") fdb) (mX : mg "NoMean" = some (.ref (He.ga K "NoMean"))) (mb : mg "TearError" = some (.ref (He.ga K "TearError"))) {j : Nat} (hj : 2 ≤ j) :
    ExcK P w K mg base j "NoMean" (He.ga K "NoMean") 0 (fun ws => [("word", .str "NoMean")]) := by
  obtain ⟨ds, vd, bb⟩ := Fb.binds1 (ps := ["self", "word"]) 2 1 (List.cons_ne_nil _ _) rfl (fun T kV doc pm an cdv ct us its l1 l2 => match us, its, l1, l2 with | [_, _], [_], _, _ => ⟨_, rfl, rfl⟩)
  have ed : ds = [] := List.eq_nil_of_length_eq_zero vd.length.symm
  subst ed
  have GB : FnOk P w K mg base CX0 1 _ _ ["self", "word"] (spBase K) := okI_TearError (k := 0) Fb
  have bX := F.binds (ps := ["self"]) fun _ _ _ _ _ _ us hl => match us, hl with | [_], _ => rfl
  have GX := okI_NoMean (k := 1) F L.T (L.n "word" (List.mem_cons_self ..)) L.B GB bb mb
  exact ⟨L.T, mX, _, _, _, L.i, L.t, GX.mono hj, bX⟩
theorem exk_BadText {P : Program} {w : World} {K : PySem.W.Frag} {mg : Str → Option Value} {base : Heap} {fd fdb : FuncData} (L : LeafK K "BadText" "TearError" ["at"]) (F : Fun K "__init__" "BadText.__init__" sI_BadText (He.ma K (He.ga K "BadText") "__init__") fd)
    (Fb : FunD K "__init__" "TearError.__init__" (defArgs sI_TearError) (defBody sI_TearError) (defScope sI_TearError) [.str "TearError"] [] (He.ma K (He.ga K "TearError") "__init__") fdb) (mX : mg "BadText" = some (.ref (He.ga K "BadText"))) (mb : mg "TearError" = some (.ref (He.ga K "TearError"))) {j : Nat} (hj : 2 ≤ j) :
    ExcK P w K mg base j "BadText" (He.ga K "BadText") 1 (fun ws => [("at", ws.getD 0 .non), ("word", .str "BadText")]) := by
  obtain ⟨ds, vd, bb⟩ := Fb.binds1 (ps := ["self", "word"]) 2 1 (List.cons_ne_nil _ _) rfl (fun T kV doc pm an cdv ct us its l1 l2 => match us, its, l1, l2 with | [_, _], [_], _, _ => ⟨_, rfl, rfl⟩)
  have ed : ds = [] := List.eq_nil_of_length_eq_zero vd.length.symm
  subst ed
  have GB : FnOk P w K mg base CX0 1 _ _ ["self", "word"] (spBase K) := okI_TearError (k := 0) Fb
  have bX := F.binds (ps := ["self", "at"]) fun _ _ _ _ _ _ us hl => match us, hl with | [_, _], _ => rfl
  have GX := okI_BadText (k := 1) F L.T (L.n "word" (List.mem_cons_self ..)) (L.n "at" (List.mem_cons_of_mem _ (List.mem_cons_self ..))) L.B GB bb mb
  exact ⟨L.T, mX, _, _, _, L.i, L.t, GX.mono hj, bX⟩
theorem exk_NoPad {P : Program} {w : World} {K : PySem.W.Frag} {mg : Str → Option Value} {base : Heap} {fd fdb : FuncData} (L : LeafK K "NoPad" "Missing" ["pad"]) (F : Fun K "__init__" "NoPad.__init__" sI_NoPad (He.ma K (He.ga K "NoPad") "__init__") fd)
    (Fb : FunD K "__init__" "Missing.__init__" (defArgs sI_Missing) (defBody sI_Missing) (defScope sI_Missing) [.str "Missing"] [] (He.ma K (He.ga K "Missing") "__init__") fdb) (mX : mg "NoPad" = some (.ref (He.ga K "NoPad"))) (mb : mg "Missing" = some (.ref (He.ga K "Missing"))) {j : Nat} (hj : 2 ≤ j) :
    ExcK P w K mg base j "NoPad" (He.ga K "NoPad") 1 (fun ws => [("pad", ws.getD 0 .non), ("word", .str "NoPad")]) := by
  obtain ⟨ds, vd, bb⟩ := Fb.binds1 (ps := ["self", "word"]) 2 1 (List.cons_ne_nil _ _) rfl (fun T kV doc pm an cdv ct us its l1 l2 => match us, its, l1, l2 with | [_, _], [_], _, _ => ⟨_, rfl, rfl⟩)
  have ed : ds = [] := List.eq_nil_of_length_eq_zero vd.length.symm
  subst ed
  have GB : FnOk P w K mg base CX0 1 _ _ ["self", "word"] (spBase K) := okI_Missing (k := 0) Fb
  have bX := F.binds (ps := ["self", "pad"]) fun _ _ _ _ _ _ us hl => match us, hl with | [_, _], _ => rfl
  have GX := okI_NoPad (k := 1) F L.T (L.n "word" (List.mem_cons_self ..)) (L.n "pad" (List.mem_cons_of_mem _ (List.mem_cons_self ..))) L.B GB bb mb
  exact ⟨L.T, mX, _, _, _, L.i, L.t, GX.mono hj, bX⟩
theorem exk_NoFigure {P : Program} {w : World} {K : PySem.W.Frag} {mg : Str → Option Value} {base : Heap} {fd fdb : FuncData} (L : LeafK K "NoFigure" "Missing" ["figure"]) (F : Fun K "__init__" "NoFigure.__init__" sI_NoFigure (He.ma K (He.ga K "NoFigure") "__init__") fd)
    (Fb : FunD K "__init__" "Missing.__init__" (defArgs sI_Missing) (defBody sI_Missing) (defScope sI_Missing) [.str "Missing"] [] (He.ma K (He.ga K "Missing") "__init__") fdb) (mX : mg "NoFigure" = some (.ref (He.ga K "NoFigure"))) (mb : mg "Missing" = some (.ref (He.ga K "Missing"))) {j : Nat} (hj : 2 ≤ j) :
    ExcK P w K mg base j "NoFigure" (He.ga K "NoFigure") 1 (fun ws => [("figure", ws.getD 0 .non), ("word", .str "NoFigure")]) := by
  obtain ⟨ds, vd, bb⟩ := Fb.binds1 (ps := ["self", "word"]) 2 1 (List.cons_ne_nil _ _) rfl (fun T kV doc pm an cdv ct us its l1 l2 => match us, its, l1, l2 with | [_, _], [_], _, _ => ⟨_, rfl, rfl⟩)
  have ed : ds = [] := List.eq_nil_of_length_eq_zero vd.length.symm
  subst ed
  have GB : FnOk P w K mg base CX0 1 _ _ ["self", "word"] (spBase K) := okI_Missing (k := 0) Fb
  have bX := F.binds (ps := ["self", "figure"]) fun _ _ _ _ _ _ us hl => match us, hl with | [_, _], _ => rfl
  have GX := okI_NoFigure (k := 1) F L.T (L.n "word" (List.mem_cons_self ..)) (L.n "figure" (List.mem_cons_of_mem _ (List.mem_cons_self ..))) L.B GB bb mb
  exact ⟨L.T, mX, _, _, _, L.i, L.t, GX.mono hj, bX⟩
theorem exk_NoNote {P : Program} {w : World} {K : PySem.W.Frag} {mg : Str → Option Value} {base : Heap} {fd fdb : FuncData} (L : LeafK K "NoNote" "Missing" ["depth"]) (F : Fun K "__init__" "NoNote.__init__" sI_NoNote (He.ma K (He.ga K "NoNote") "__init__") fd)
    (Fb : FunD K "__init__" "Missing.__init__" (defArgs sI_Missing) (defBody sI_Missing) (defScope sI_Missing) [.str "Missing"] [] (He.ma K (He.ga K "Missing") "__init__") fdb) (mX : mg "NoNote" = some (.ref (He.ga K "NoNote"))) (mb : mg "Missing" = some (.ref (He.ga K "Missing"))) {j : Nat} (hj : 2 ≤ j) :
    ExcK P w K mg base j "NoNote" (He.ga K "NoNote") 1 (fun ws => [("depth", ws.getD 0 .non), ("word", .str "NoNote")]) := by
  obtain ⟨ds, vd, bb⟩ := Fb.binds1 (ps := ["self", "word"]) 2 1 (List.cons_ne_nil _ _) rfl (fun T kV doc pm an cdv ct us its l1 l2 => match us, its, l1, l2 with | [_, _], [_], _, _ => ⟨_, rfl, rfl⟩)
  have ed : ds = [] := List.eq_nil_of_length_eq_zero vd.length.symm
  subst ed
  have GB : FnOk P w K mg base CX0 1 _ _ ["self", "word"] (spBase K) := okI_Missing (k := 0) Fb
  have bX := F.binds (ps := ["self", "depth"]) fun _ _ _ _ _ _ us hl => match us, hl with | [_, _], _ => rfl
  have GX := okI_NoNote (k := 1) F L.T (L.n "word" (List.mem_cons_self ..)) (L.n "depth" (List.mem_cons_of_mem _ (List.mem_cons_self ..))) L.B GB bb mb
  exact ⟨L.T, mX, _, _, _, L.i, L.t, GX.mono hj, bX⟩
theorem exk_NothingBack {P : Program} {w : World} {K : PySem.W.Frag} {mg : Str → Option Value} {base : Heap} {fd fdb : FuncData} (L : LeafK K "NothingBack" "Stuck" []) (F : Fun K "__init__" "NothingBack.__init__" sI_NothingBack (He.ma K (He.ga K "NothingBack") "__init__") fd)
    (Fb : FunD K "__init__" "Stuck.__init__" (defArgs sI_Stuck) (defBody sI_Stuck) (defScope sI_Stuck) [.str "Stuck"] [] (He.ma K (He.ga K "Stuck") "__init__") fdb) (mX : mg "NothingBack" = some (.ref (He.ga K "NothingBack"))) (mb : mg "Stuck" = some (.ref (He.ga K "Stuck"))) {j : Nat} (hj : 2 ≤ j) :
    ExcK P w K mg base j "NothingBack" (He.ga K "NothingBack") 0 (fun ws => [("word", .str "NothingBack")]) := by
  obtain ⟨ds, vd, bb⟩ := Fb.binds1 (ps := ["self", "word"]) 2 1 (List.cons_ne_nil _ _) rfl (fun T kV doc pm an cdv ct us its l1 l2 => match us, its, l1, l2 with | [_, _], [_], _, _ => ⟨_, rfl, rfl⟩)
  have ed : ds = [] := List.eq_nil_of_length_eq_zero vd.length.symm
  subst ed
  have GB : FnOk P w K mg base CX0 1 _ _ ["self", "word"] (spBase K) := okI_Stuck (k := 0) Fb
  have bX := F.binds (ps := ["self"]) fun _ _ _ _ _ _ us hl => match us, hl with | [_], _ => rfl
  have GX := okI_NothingBack (k := 1) F L.T (L.n "word" (List.mem_cons_self ..)) L.B GB bb mb
  exact ⟨L.T, mX, _, _, _, L.i, L.t, GX.mono hj, bX⟩
theorem exk_NothingAgain {P : Program} {w : World} {K : PySem.W.Frag} {mg : Str → Option Value} {base : Heap} {fd fdb : FuncData} (L : LeafK K "NothingAgain" "Stuck" []) (F : Fun K "__init__" "NothingAgain.__init__" sI_NothingAgain (He.ma K (He.ga K "NothingAgain") "__init__") fd)
    (Fb : FunD K "__init__" "Stuck.__init__" (defArgs sI_Stuck) (defBody sI_Stuck) (defScope sI_Stuck) [.str "Stuck"] [] (He.ma K (He.ga K "Stuck") "__init__") fdb) (mX : mg "NothingAgain" = some (.ref (He.ga K "NothingAgain"))) (mb : mg "Stuck" = some (.ref (He.ga K "Stuck"))) {j : Nat} (hj : 2 ≤ j) :
    ExcK P w K mg base j "NothingAgain" (He.ga K "NothingAgain") 0 (fun ws => [("word", .str "NothingAgain")]) := by
  obtain ⟨ds, vd, bb⟩ := Fb.binds1 (ps := ["self", "word"]) 2 1 (List.cons_ne_nil _ _) rfl (fun T kV doc pm an cdv ct us its l1 l2 => match us, its, l1, l2 with | [_, _], [_], _, _ => ⟨_, rfl, rfl⟩)
  have ed : ds = [] := List.eq_nil_of_length_eq_zero vd.length.symm
  subst ed
  have GB : FnOk P w K mg base CX0 1 _ _ ["self", "word"] (spBase K) := okI_Stuck (k := 0) Fb
  have bX := F.binds (ps := ["self"]) fun _ _ _ _ _ _ us hl => match us, hl with | [_], _ => rfl
  have GX := okI_NothingAgain (k := 1) F L.T (L.n "word" (List.mem_cons_self ..)) L.B GB bb mb
  exact ⟨L.T, mX, _, _, _, L.i, L.t, GX.mono hj, bX⟩
/-! ### the head by facts; the end -/
def hFa : List He.Fa := (([.glo "_law_bag", .glo "_law_pull", .glo "_law_refusals", .glo "_law_like", .glo "_law_flags", .glo "_law_kin", .glo "_law_values", .glo "law", .glo "TearError", .glo "BadColours", .glo "BadFigure", .glo "Meeting"] : List He.Fa) ++ ([.glo "TooMany", .glo "TooFar", .glo "BadOrder", .glo "OtherColours", .glo "OtherBook", .glo "BadRow", .glo "BadNote", .glo "BadBeneath", .glo "Full", .glo "NoEnd", .glo "NotStanding", .glo "NeverClear"] : List He.Fa) ++ ([.glo "BadDeed", .glo "BadNumber", .glo "NoBeginning", .glo "Barred", .glo "BadHeights", .glo "BadWeights", .glo "NoMean", .glo "BadText", .glo "Missing", .glo "NoPad", .glo "NoFigure", .glo "NoNote"] : List He.Fa) ++ ([.glo "Stuck", .glo "NothingBack", .glo "NothingAgain", .free "len", .free "list", .free "tuple", .free "range", .free "isinstance", .free "all", .free "bool", .free "int", .free "str"] : List He.Fa) ++ ([.free "ValueError", .free "LookupError", .free "RuntimeError"] : List He.Fa))
def hFn : List He.DefD := ([dOf ("_law_bag", none) "_law_bag" "_law_bag" sBag [] [], dOf ("_law_pull", none) "_law_pull" "_law_pull" sPull [] [], dOf ("_law_refusals", none) "_law_refusals" "_law_refusals" sRefs [] [], dOf ("_law_like", none) "_law_like" "_law_like" sLike [] [], dOf ("_law_flags", none) "_law_flags" "_law_flags" sFlags [] [], dOf ("_law_kin", none) "_law_kin" "_law_kin" sKin [] [], dOf ("_law_values", none) "_law_values" "_law_values" sVals [] [], dOf ("law", none) "law" "law" sLaw [] [], dOf ("TearError", some "__init__") "__init__" "TearError.__init__" sI_TearError [.str "TearError"] [], dOf ("BadColours", some "__init__") "__init__" "BadColours.__init__" sI_BadColours [] [], dOf ("BadFigure", some "__init__") "__init__" "BadFigure.__init__" sI_BadFigure [] [], dOf ("Meeting", some "__init__") "__init__" "Meeting.__init__" sI_Meeting [] []] : List He.DefD) ++ ([dOf ("TooMany", some "__init__") "__init__" "TooMany.__init__" sI_TooMany [] [], dOf ("TooFar", some "__init__") "__init__" "TooFar.__init__" sI_TooFar [] [], dOf ("BadOrder", some "__init__") "__init__" "BadOrder.__init__" sI_BadOrder [] [], dOf ("OtherColours", some "__init__") "__init__" "OtherColours.__init__" sI_OtherColours [] [], dOf ("OtherBook", some "__init__") "__init__" "OtherBook.__init__" sI_OtherBook [] [], dOf ("BadRow", some "__init__") "__init__" "BadRow.__init__" sI_BadRow [] [], dOf ("BadNote", some "__init__") "__init__" "BadNote.__init__" sI_BadNote [] [], dOf ("BadBeneath", some "__init__") "__init__" "BadBeneath.__init__" sI_BadBeneath [] [], dOf ("Full", some "__init__") "__init__" "Full.__init__" sI_Full [] [], dOf ("NoEnd", some "__init__") "__init__" "NoEnd.__init__" sI_NoEnd [] [], dOf ("NotStanding", some "__init__") "__init__" "NotStanding.__init__" sI_NotStanding [] [], dOf ("NeverClear", some "__init__") "__init__" "NeverClear.__init__" sI_NeverClear [] []] : List He.DefD) ++ ([dOf ("BadDeed", some "__init__") "__init__" "BadDeed.__init__" sI_BadDeed [] [], dOf ("BadNumber", some "__init__") "__init__" "BadNumber.__init__" sI_BadNumber [] [], dOf ("NoBeginning", some "__init__") "__init__" "NoBeginning.__init__" sI_NoBeginning [] [], dOf ("Barred", some "__init__") "__init__" "Barred.__init__" sI_Barred [] [], dOf ("BadHeights", some "__init__") "__init__" "BadHeights.__init__" sI_BadHeights [] [], dOf ("BadWeights", some "__init__") "__init__" "BadWeights.__init__" sI_BadWeights [] [], dOf ("NoMean", some "__init__") "__init__" "NoMean.__init__" sI_NoMean [] [], dOf ("BadText", some "__init__") "__init__" "BadText.__init__" sI_BadText [] [], dOf ("Missing", some "__init__") "__init__" "Missing.__init__" sI_Missing [.str "Missing"] [], dOf ("NoPad", some "__init__") "__init__" "NoPad.__init__" sI_NoPad [] [], dOf ("NoFigure", some "__init__") "__init__" "NoFigure.__init__" sI_NoFigure [] [], dOf ("NoNote", some "__init__") "__init__" "NoNote.__init__" sI_NoNote [] []] : List He.DefD) ++ ([dOf ("Stuck", some "__init__") "__init__" "Stuck.__init__" sI_Stuck [.str "Stuck"] [], dOf ("NothingBack", some "__init__") "__init__" "NothingBack.__init__" sI_NothingBack [] [], dOf ("NothingAgain", some "__init__") "__init__" "NothingAgain.__init__" sI_NothingAgain [] []] : List He.DefD)
def hEx (K : PySem.W.Frag) : Bool := leafB K "BadColours" "TearError" "ValueError" "ValueError.__new__" ["at"] && (leafB K "BadFigure" "TearError" "ValueError" "ValueError.__new__" ["at"] && (leafB K "Meeting" "TearError" "ValueError" "ValueError.__new__" ["one", "other"] && (leafB K "TooMany" "TearError" "ValueError" "ValueError.__new__" ["most"] && (leafB K "TooFar" "TearError" "ValueError" "ValueError.__new__" ["most"] && (leafB K "BadOrder" "TearError" "ValueError" "ValueError.__new__" [] && (leafB K "OtherColours" "TearError" "ValueError" "ValueError.__new__" [] && (leafB K "OtherBook" "TearError" "ValueError" "ValueError.__new__" [] && (leafB K "BadRow" "TearError" "ValueError" "ValueError.__new__" ["at"] && (leafB K "BadNote" "TearError" "ValueError" "ValueError.__new__" ["note"] && (leafB K "BadBeneath" "TearError" "ValueError" "ValueError.__new__" [] && (leafB K "Full" "TearError" "ValueError" "ValueError.__new__" ["pad"] && (leafB K "NoEnd" "TearError" "ValueError" "ValueError.__new__" ["pad"] && (leafB K "NotStanding" "TearError" "ValueError" "ValueError.__new__" ["figure"] && (leafB K "NeverClear" "TearError" "ValueError" "ValueError.__new__" ["pad"] && (leafB K "BadDeed" "TearError" "ValueError" "ValueError.__new__" [] && (leafB K "BadNumber" "TearError" "ValueError" "ValueError.__new__" ["number"] && (leafB K "NoBeginning" "TearError" "ValueError" "ValueError.__new__" [] && (leafB K "Barred" "TearError" "ValueError" "ValueError.__new__" ["pad"] && (leafB K "BadHeights" "TearError" "ValueError" "ValueError.__new__" ["at"] && (leafB K "BadWeights" "TearError" "ValueError" "ValueError.__new__" ["at"] && (leafB K "NoMean" "TearError" "ValueError" "ValueError.__new__" [] && (leafB K "BadText" "TearError" "ValueError" "ValueError.__new__" ["at"] && (leafB K "NoPad" "Missing" "LookupError" "LookupError.__new__" ["pad"] && (leafB K "NoFigure" "Missing" "LookupError" "LookupError.__new__" ["figure"] && (leafB K "NoNote" "Missing" "LookupError" "LookupError.__new__" ["depth"] && (leafB K "NothingBack" "Stuck" "RuntimeError" "RuntimeError.__new__" [] && (leafB K "NothingAgain" "Stuck" "RuntimeError" "RuntimeError.__new__" [] && (kinsB K))))))))))))))))))))))))))))
def hTf : List He.Defn := []
def hNames : List PySem.Str := (["BadColours", "BadFigure", "Meeting", "TooMany", "TooFar", "BadOrder", "OtherColours", "OtherBook", "BadRow", "BadNote", "BadBeneath", "Full"] : List PySem.Str) ++ (["NoEnd", "NotStanding", "NeverClear", "BadDeed", "BadNumber", "NoBeginning", "Barred", "BadHeights", "BadWeights", "NoMean", "BadText", "NoPad"] : List PySem.Str) ++ (["NoFigure", "NoNote", "NothingBack", "NothingAgain", "TearError", "Missing", "Stuck", "_law_bag", "_law_pull", "_law_refusals", "_law_like", "_law_flags"] : List PySem.Str) ++ (["_law_kin", "_law_values"] : List PySem.Str)
abbrev hR : PySem.W.OpenRow := PySem.W.OpenLaw.row PySem.Challenge.rw_tearboard_k01_refusals_and_their_familie
abbrev hK : PySem.W.Hook := hookS 5 hFa hFn hTf hEx
def hOb (s : PySem.W.SharedT) : He.AlX := lookS 5 hFa hFn hTf hEx (HandSHeadRun.getT s)
theorem hOb_eq (s : PySem.W.SharedT) : hOb s = hK.obs s.abs := lookS_eq s
theorem hFacts {l : PySem.W.OpenLaw} {w : World} {K : PySem.W.Frag} {h : Heap} {mg : Str → Option Value} {fa0 : Addr} (X : K.In h) (G : h.Ns mainGlobals mg) (hfa : mg "law" = some (.ref fa0)) (c : He.SaysX hFa hFn [] hTf hEx w h K) : LamX.LawAtS l w K CX0 8 63 "_law_script" mg fa0 h := by
  have cd := c.t.d
  have mo0 := c.more
  obtain ⟨x0, mo1⟩ := He.ba mo0
  obtain ⟨x1, mo2⟩ := He.ba mo1
  obtain ⟨x2, mo3⟩ := He.ba mo2
  obtain ⟨x3, mo4⟩ := He.ba mo3
  obtain ⟨x4, mo5⟩ := He.ba mo4
  obtain ⟨x5, mo6⟩ := He.ba mo5
  obtain ⟨x6, mo7⟩ := He.ba mo6
  obtain ⟨x7, mo8⟩ := He.ba mo7
  obtain ⟨x8, mo9⟩ := He.ba mo8
  obtain ⟨x9, mo10⟩ := He.ba mo9
  obtain ⟨x10, mo11⟩ := He.ba mo10
  obtain ⟨x11, mo12⟩ := He.ba mo11
  obtain ⟨x12, mo13⟩ := He.ba mo12
  obtain ⟨x13, mo14⟩ := He.ba mo13
  obtain ⟨x14, mo15⟩ := He.ba mo14
  obtain ⟨x15, mo16⟩ := He.ba mo15
  obtain ⟨x16, mo17⟩ := He.ba mo16
  obtain ⟨x17, mo18⟩ := He.ba mo17
  obtain ⟨x18, mo19⟩ := He.ba mo18
  obtain ⟨x19, mo20⟩ := He.ba mo19
  obtain ⟨x20, mo21⟩ := He.ba mo20
  obtain ⟨x21, mo22⟩ := He.ba mo21
  obtain ⟨x22, mo23⟩ := He.ba mo22
  obtain ⟨x23, mo24⟩ := He.ba mo23
  obtain ⟨x24, mo25⟩ := He.ba mo24
  obtain ⟨x25, mo26⟩ := He.ba mo25
  obtain ⟨x26, mo27⟩ := He.ba mo26
  obtain ⟨x27, mo28⟩ := He.ba mo27
  have x28 := mo28
  obtain ⟨fdB, FB0⟩ := cd.def_ 0 (d := dOf ("_law_bag", none) "_law_bag" "_law_bag" sBag [] []) rfl
  have FB : Fun K "_law_bag" "_law_bag" sBag (He.ga K "_law_bag") fdB := funOf FB0
  have gB : mg "_law_bag" = some (.ref (He.ga K "_law_bag")) := He.glo_ok X G (cd.fact 0 (f := .glo "_law_bag") rfl)
  have bB := FB.binds (ps := ["_law_script"]) fun _ _ _ _ _ _ us hl => match us, hl with | [_], _ => rfl
  obtain ⟨fdP, FP0⟩ := cd.def_ 1 (d := dOf ("_law_pull", none) "_law_pull" "_law_pull" sPull [] []) rfl
  have FP : Fun K "_law_pull" "_law_pull" sPull (He.ga K "_law_pull") fdP := funOf FP0
  have gP : mg "_law_pull" = some (.ref (He.ga K "_law_pull")) := He.glo_ok X G (cd.fact 1 (f := .glo "_law_pull") rfl)
  have bP := FP.binds (ps := ["_law_bag_here", "_law_size"]) fun _ _ _ _ _ _ us hl => match us, hl with | [_, _], _ => rfl
  obtain ⟨fdR, FR0⟩ := cd.def_ 2 (d := dOf ("_law_refusals", none) "_law_refusals" "_law_refusals" sRefs [] []) rfl
  have FR : Fun K "_law_refusals" "_law_refusals" sRefs (He.ga K "_law_refusals") fdR := funOf FR0
  have gR : mg "_law_refusals" = some (.ref (He.ga K "_law_refusals")) := He.glo_ok X G (cd.fact 2 (f := .glo "_law_refusals") rfl)
  have bR := FR.binds (ps := ["_law_n", "_law_m"]) fun _ _ _ _ _ _ us hl => match us, hl with | [_, _], _ => rfl
  obtain ⟨fdK, FK0⟩ := cd.def_ 3 (d := dOf ("_law_like", none) "_law_like" "_law_like" sLike [] []) rfl
  have FK : Fun K "_law_like" "_law_like" sLike (He.ga K "_law_like") fdK := funOf FK0
  have gK : mg "_law_like" = some (.ref (He.ga K "_law_like")) := He.glo_ok X G (cd.fact 3 (f := .glo "_law_like") rfl)
  have bK := FK.binds (ps := ["_law_one", "_law_due"]) fun _ _ _ _ _ _ us hl => match us, hl with | [_, _], _ => rfl
  obtain ⟨fdF, FF0⟩ := cd.def_ 4 (d := dOf ("_law_flags", none) "_law_flags" "_law_flags" sFlags [] []) rfl
  have FF : Fun K "_law_flags" "_law_flags" sFlags (He.ga K "_law_flags") fdF := funOf FF0
  have gF : mg "_law_flags" = some (.ref (He.ga K "_law_flags")) := He.glo_ok X G (cd.fact 4 (f := .glo "_law_flags") rfl)
  have bF := FF.binds (ps := ["_law_e"]) fun _ _ _ _ _ _ us hl => match us, hl with | [_], _ => rfl
  obtain ⟨fdN, FN0⟩ := cd.def_ 5 (d := dOf ("_law_kin", none) "_law_kin" "_law_kin" sKin [] []) rfl
  have FN : Fun K "_law_kin" "_law_kin" sKin (He.ga K "_law_kin") fdN := funOf FN0
  have gN : mg "_law_kin" = some (.ref (He.ga K "_law_kin")) := He.glo_ok X G (cd.fact 5 (f := .glo "_law_kin") rfl)
  have bN := FN.binds (ps := ["_law_e"]) fun _ _ _ _ _ _ us hl => match us, hl with | [_], _ => rfl
  obtain ⟨fdV, FV0⟩ := cd.def_ 6 (d := dOf ("_law_values", none) "_law_values" "_law_values" sVals [] []) rfl
  have FV : Fun K "_law_values" "_law_values" sVals (He.ga K "_law_values") fdV := funOf FV0
  have gV : mg "_law_values" = some (.ref (He.ga K "_law_values")) := He.glo_ok X G (cd.fact 6 (f := .glo "_law_values") rfl)
  have bV := FV.binds (ps := ["_law_e"]) fun _ _ _ _ _ _ us hl => match us, hl with | [_], _ => rfl
  obtain ⟨fdW, FW0⟩ := cd.def_ 7 (d := dOf ("law", none) "law" "law" sLaw [] []) rfl
  have FW : Fun K "law" "law" sLaw (He.ga K "law") fdW := funOf FW0
  have gW : mg "law" = some (.ref (He.ga K "law")) := He.glo_ok X G (cd.fact 7 (f := .glo "law") rfl)
  obtain ⟨fdb_TearError, Fb_TearError⟩ := cd.def_ 8 (d := dOf ("TearError", some "__init__") "__init__" "TearError.__init__" sI_TearError [.str "TearError"] []) rfl
  have mb_TearError : mg "TearError" = some (.ref (He.ga K "TearError")) := He.glo_ok X G (cd.fact 8 (f := .glo "TearError") rfl)
  obtain ⟨fdx_BadColours, Fx_BadColours⟩ := cd.def_ 9 (d := dOf ("BadColours", some "__init__") "__init__" "BadColours.__init__" sI_BadColours [] []) rfl
  have mx_BadColours : mg "BadColours" = some (.ref (He.ga K "BadColours")) := He.glo_ok X G (cd.fact 9 (f := .glo "BadColours") rfl)
  have R_BadColours : ∀ (base : Heap) (j : Nat), 2 ≤ j → ExcK l.prog w K mg base j "BadColours" (He.ga K "BadColours") 1 (fun ws => [("at", ws.getD 0 .non), ("word", .str "BadColours")]) := fun base j hj => exk_BadColours (leafV x0) (funOf Fx_BadColours) Fb_TearError mx_BadColours mb_TearError hj
  obtain ⟨fdx_BadFigure, Fx_BadFigure⟩ := cd.def_ 10 (d := dOf ("BadFigure", some "__init__") "__init__" "BadFigure.__init__" sI_BadFigure [] []) rfl
  have mx_BadFigure : mg "BadFigure" = some (.ref (He.ga K "BadFigure")) := He.glo_ok X G (cd.fact 10 (f := .glo "BadFigure") rfl)
  have R_BadFigure : ∀ (base : Heap) (j : Nat), 2 ≤ j → ExcK l.prog w K mg base j "BadFigure" (He.ga K "BadFigure") 1 (fun ws => [("at", ws.getD 0 .non), ("word", .str "BadFigure")]) := fun base j hj => exk_BadFigure (leafV x1) (funOf Fx_BadFigure) Fb_TearError mx_BadFigure mb_TearError hj
  obtain ⟨fdx_Meeting, Fx_Meeting⟩ := cd.def_ 11 (d := dOf ("Meeting", some "__init__") "__init__" "Meeting.__init__" sI_Meeting [] []) rfl
  have mx_Meeting : mg "Meeting" = some (.ref (He.ga K "Meeting")) := He.glo_ok X G (cd.fact 11 (f := .glo "Meeting") rfl)
  have R_Meeting : ∀ (base : Heap) (j : Nat), 2 ≤ j → ExcK l.prog w K mg base j "Meeting" (He.ga K "Meeting") 2 (fun ws => [("other", ws.getD 1 .non), ("one", ws.getD 0 .non), ("word", .str "Meeting")]) := fun base j hj => exk_Meeting (leafV x2) (funOf Fx_Meeting) Fb_TearError mx_Meeting mb_TearError hj
  obtain ⟨fdx_TooMany, Fx_TooMany⟩ := cd.def_ 12 (d := dOf ("TooMany", some "__init__") "__init__" "TooMany.__init__" sI_TooMany [] []) rfl
  have mx_TooMany : mg "TooMany" = some (.ref (He.ga K "TooMany")) := He.glo_ok X G (cd.fact 12 (f := .glo "TooMany") rfl)
  have R_TooMany : ∀ (base : Heap) (j : Nat), 2 ≤ j → ExcK l.prog w K mg base j "TooMany" (He.ga K "TooMany") 1 (fun ws => [("most", ws.getD 0 .non), ("word", .str "TooMany")]) := fun base j hj => exk_TooMany (leafV x3) (funOf Fx_TooMany) Fb_TearError mx_TooMany mb_TearError hj
  obtain ⟨fdx_TooFar, Fx_TooFar⟩ := cd.def_ 13 (d := dOf ("TooFar", some "__init__") "__init__" "TooFar.__init__" sI_TooFar [] []) rfl
  have mx_TooFar : mg "TooFar" = some (.ref (He.ga K "TooFar")) := He.glo_ok X G (cd.fact 13 (f := .glo "TooFar") rfl)
  have R_TooFar : ∀ (base : Heap) (j : Nat), 2 ≤ j → ExcK l.prog w K mg base j "TooFar" (He.ga K "TooFar") 1 (fun ws => [("most", ws.getD 0 .non), ("word", .str "TooFar")]) := fun base j hj => exk_TooFar (leafV x4) (funOf Fx_TooFar) Fb_TearError mx_TooFar mb_TearError hj
  obtain ⟨fdx_BadOrder, Fx_BadOrder⟩ := cd.def_ 14 (d := dOf ("BadOrder", some "__init__") "__init__" "BadOrder.__init__" sI_BadOrder [] []) rfl
  have mx_BadOrder : mg "BadOrder" = some (.ref (He.ga K "BadOrder")) := He.glo_ok X G (cd.fact 14 (f := .glo "BadOrder") rfl)
  have R_BadOrder : ∀ (base : Heap) (j : Nat), 2 ≤ j → ExcK l.prog w K mg base j "BadOrder" (He.ga K "BadOrder") 0 (fun ws => [("word", .str "BadOrder")]) := fun base j hj => exk_BadOrder (leafV x5) (funOf Fx_BadOrder) Fb_TearError mx_BadOrder mb_TearError hj
  obtain ⟨fdx_OtherColours, Fx_OtherColours⟩ := cd.def_ 15 (d := dOf ("OtherColours", some "__init__") "__init__" "OtherColours.__init__" sI_OtherColours [] []) rfl
  have mx_OtherColours : mg "OtherColours" = some (.ref (He.ga K "OtherColours")) := He.glo_ok X G (cd.fact 15 (f := .glo "OtherColours") rfl)
  have R_OtherColours : ∀ (base : Heap) (j : Nat), 2 ≤ j → ExcK l.prog w K mg base j "OtherColours" (He.ga K "OtherColours") 0 (fun ws => [("word", .str "OtherColours")]) := fun base j hj => exk_OtherColours (leafV x6) (funOf Fx_OtherColours) Fb_TearError mx_OtherColours mb_TearError hj
  obtain ⟨fdx_OtherBook, Fx_OtherBook⟩ := cd.def_ 16 (d := dOf ("OtherBook", some "__init__") "__init__" "OtherBook.__init__" sI_OtherBook [] []) rfl
  have mx_OtherBook : mg "OtherBook" = some (.ref (He.ga K "OtherBook")) := He.glo_ok X G (cd.fact 16 (f := .glo "OtherBook") rfl)
  have R_OtherBook : ∀ (base : Heap) (j : Nat), 2 ≤ j → ExcK l.prog w K mg base j "OtherBook" (He.ga K "OtherBook") 0 (fun ws => [("word", .str "OtherBook")]) := fun base j hj => exk_OtherBook (leafV x7) (funOf Fx_OtherBook) Fb_TearError mx_OtherBook mb_TearError hj
  obtain ⟨fdx_BadRow, Fx_BadRow⟩ := cd.def_ 17 (d := dOf ("BadRow", some "__init__") "__init__" "BadRow.__init__" sI_BadRow [] []) rfl
  have mx_BadRow : mg "BadRow" = some (.ref (He.ga K "BadRow")) := He.glo_ok X G (cd.fact 17 (f := .glo "BadRow") rfl)
  have R_BadRow : ∀ (base : Heap) (j : Nat), 2 ≤ j → ExcK l.prog w K mg base j "BadRow" (He.ga K "BadRow") 1 (fun ws => [("at", ws.getD 0 .non), ("word", .str "BadRow")]) := fun base j hj => exk_BadRow (leafV x8) (funOf Fx_BadRow) Fb_TearError mx_BadRow mb_TearError hj
  obtain ⟨fdx_BadNote, Fx_BadNote⟩ := cd.def_ 18 (d := dOf ("BadNote", some "__init__") "__init__" "BadNote.__init__" sI_BadNote [] []) rfl
  have mx_BadNote : mg "BadNote" = some (.ref (He.ga K "BadNote")) := He.glo_ok X G (cd.fact 18 (f := .glo "BadNote") rfl)
  have R_BadNote : ∀ (base : Heap) (j : Nat), 2 ≤ j → ExcK l.prog w K mg base j "BadNote" (He.ga K "BadNote") 1 (fun ws => [("note", ws.getD 0 .non), ("word", .str "BadNote")]) := fun base j hj => exk_BadNote (leafV x9) (funOf Fx_BadNote) Fb_TearError mx_BadNote mb_TearError hj
  obtain ⟨fdx_BadBeneath, Fx_BadBeneath⟩ := cd.def_ 19 (d := dOf ("BadBeneath", some "__init__") "__init__" "BadBeneath.__init__" sI_BadBeneath [] []) rfl
  have mx_BadBeneath : mg "BadBeneath" = some (.ref (He.ga K "BadBeneath")) := He.glo_ok X G (cd.fact 19 (f := .glo "BadBeneath") rfl)
  have R_BadBeneath : ∀ (base : Heap) (j : Nat), 2 ≤ j → ExcK l.prog w K mg base j "BadBeneath" (He.ga K "BadBeneath") 0 (fun ws => [("word", .str "BadBeneath")]) := fun base j hj => exk_BadBeneath (leafV x10) (funOf Fx_BadBeneath) Fb_TearError mx_BadBeneath mb_TearError hj
  obtain ⟨fdx_Full, Fx_Full⟩ := cd.def_ 20 (d := dOf ("Full", some "__init__") "__init__" "Full.__init__" sI_Full [] []) rfl
  have mx_Full : mg "Full" = some (.ref (He.ga K "Full")) := He.glo_ok X G (cd.fact 20 (f := .glo "Full") rfl)
  have R_Full : ∀ (base : Heap) (j : Nat), 2 ≤ j → ExcK l.prog w K mg base j "Full" (He.ga K "Full") 1 (fun ws => [("pad", ws.getD 0 .non), ("word", .str "Full")]) := fun base j hj => exk_Full (leafV x11) (funOf Fx_Full) Fb_TearError mx_Full mb_TearError hj
  obtain ⟨fdx_NoEnd, Fx_NoEnd⟩ := cd.def_ 21 (d := dOf ("NoEnd", some "__init__") "__init__" "NoEnd.__init__" sI_NoEnd [] []) rfl
  have mx_NoEnd : mg "NoEnd" = some (.ref (He.ga K "NoEnd")) := He.glo_ok X G (cd.fact 21 (f := .glo "NoEnd") rfl)
  have R_NoEnd : ∀ (base : Heap) (j : Nat), 2 ≤ j → ExcK l.prog w K mg base j "NoEnd" (He.ga K "NoEnd") 1 (fun ws => [("pad", ws.getD 0 .non), ("word", .str "NoEnd")]) := fun base j hj => exk_NoEnd (leafV x12) (funOf Fx_NoEnd) Fb_TearError mx_NoEnd mb_TearError hj
  obtain ⟨fdx_NotStanding, Fx_NotStanding⟩ := cd.def_ 22 (d := dOf ("NotStanding", some "__init__") "__init__" "NotStanding.__init__" sI_NotStanding [] []) rfl
  have mx_NotStanding : mg "NotStanding" = some (.ref (He.ga K "NotStanding")) := He.glo_ok X G (cd.fact 22 (f := .glo "NotStanding") rfl)
  have R_NotStanding : ∀ (base : Heap) (j : Nat), 2 ≤ j → ExcK l.prog w K mg base j "NotStanding" (He.ga K "NotStanding") 1 (fun ws => [("figure", ws.getD 0 .non), ("word", .str "NotStanding")]) := fun base j hj => exk_NotStanding (leafV x13) (funOf Fx_NotStanding) Fb_TearError mx_NotStanding mb_TearError hj
  obtain ⟨fdx_NeverClear, Fx_NeverClear⟩ := cd.def_ 23 (d := dOf ("NeverClear", some "__init__") "__init__" "NeverClear.__init__" sI_NeverClear [] []) rfl
  have mx_NeverClear : mg "NeverClear" = some (.ref (He.ga K "NeverClear")) := He.glo_ok X G (cd.fact 23 (f := .glo "NeverClear") rfl)
  have R_NeverClear : ∀ (base : Heap) (j : Nat), 2 ≤ j → ExcK l.prog w K mg base j "NeverClear" (He.ga K "NeverClear") 1 (fun ws => [("pad", ws.getD 0 .non), ("word", .str "NeverClear")]) := fun base j hj => exk_NeverClear (leafV x14) (funOf Fx_NeverClear) Fb_TearError mx_NeverClear mb_TearError hj
  obtain ⟨fdx_BadDeed, Fx_BadDeed⟩ := cd.def_ 24 (d := dOf ("BadDeed", some "__init__") "__init__" "BadDeed.__init__" sI_BadDeed [] []) rfl
  have mx_BadDeed : mg "BadDeed" = some (.ref (He.ga K "BadDeed")) := He.glo_ok X G (cd.fact 24 (f := .glo "BadDeed") rfl)
  have R_BadDeed : ∀ (base : Heap) (j : Nat), 2 ≤ j → ExcK l.prog w K mg base j "BadDeed" (He.ga K "BadDeed") 0 (fun ws => [("word", .str "BadDeed")]) := fun base j hj => exk_BadDeed (leafV x15) (funOf Fx_BadDeed) Fb_TearError mx_BadDeed mb_TearError hj
  obtain ⟨fdx_BadNumber, Fx_BadNumber⟩ := cd.def_ 25 (d := dOf ("BadNumber", some "__init__") "__init__" "BadNumber.__init__" sI_BadNumber [] []) rfl
  have mx_BadNumber : mg "BadNumber" = some (.ref (He.ga K "BadNumber")) := He.glo_ok X G (cd.fact 25 (f := .glo "BadNumber") rfl)
  have R_BadNumber : ∀ (base : Heap) (j : Nat), 2 ≤ j → ExcK l.prog w K mg base j "BadNumber" (He.ga K "BadNumber") 1 (fun ws => [("number", ws.getD 0 .non), ("word", .str "BadNumber")]) := fun base j hj => exk_BadNumber (leafV x16) (funOf Fx_BadNumber) Fb_TearError mx_BadNumber mb_TearError hj
  obtain ⟨fdx_NoBeginning, Fx_NoBeginning⟩ := cd.def_ 26 (d := dOf ("NoBeginning", some "__init__") "__init__" "NoBeginning.__init__" sI_NoBeginning [] []) rfl
  have mx_NoBeginning : mg "NoBeginning" = some (.ref (He.ga K "NoBeginning")) := He.glo_ok X G (cd.fact 26 (f := .glo "NoBeginning") rfl)
  have R_NoBeginning : ∀ (base : Heap) (j : Nat), 2 ≤ j → ExcK l.prog w K mg base j "NoBeginning" (He.ga K "NoBeginning") 0 (fun ws => [("word", .str "NoBeginning")]) := fun base j hj => exk_NoBeginning (leafV x17) (funOf Fx_NoBeginning) Fb_TearError mx_NoBeginning mb_TearError hj
  obtain ⟨fdx_Barred, Fx_Barred⟩ := cd.def_ 27 (d := dOf ("Barred", some "__init__") "__init__" "Barred.__init__" sI_Barred [] []) rfl
  have mx_Barred : mg "Barred" = some (.ref (He.ga K "Barred")) := He.glo_ok X G (cd.fact 27 (f := .glo "Barred") rfl)
  have R_Barred : ∀ (base : Heap) (j : Nat), 2 ≤ j → ExcK l.prog w K mg base j "Barred" (He.ga K "Barred") 1 (fun ws => [("pad", ws.getD 0 .non), ("word", .str "Barred")]) := fun base j hj => exk_Barred (leafV x18) (funOf Fx_Barred) Fb_TearError mx_Barred mb_TearError hj
  obtain ⟨fdx_BadHeights, Fx_BadHeights⟩ := cd.def_ 28 (d := dOf ("BadHeights", some "__init__") "__init__" "BadHeights.__init__" sI_BadHeights [] []) rfl
  have mx_BadHeights : mg "BadHeights" = some (.ref (He.ga K "BadHeights")) := He.glo_ok X G (cd.fact 28 (f := .glo "BadHeights") rfl)
  have R_BadHeights : ∀ (base : Heap) (j : Nat), 2 ≤ j → ExcK l.prog w K mg base j "BadHeights" (He.ga K "BadHeights") 1 (fun ws => [("at", ws.getD 0 .non), ("word", .str "BadHeights")]) := fun base j hj => exk_BadHeights (leafV x19) (funOf Fx_BadHeights) Fb_TearError mx_BadHeights mb_TearError hj
  obtain ⟨fdx_BadWeights, Fx_BadWeights⟩ := cd.def_ 29 (d := dOf ("BadWeights", some "__init__") "__init__" "BadWeights.__init__" sI_BadWeights [] []) rfl
  have mx_BadWeights : mg "BadWeights" = some (.ref (He.ga K "BadWeights")) := He.glo_ok X G (cd.fact 29 (f := .glo "BadWeights") rfl)
  have R_BadWeights : ∀ (base : Heap) (j : Nat), 2 ≤ j → ExcK l.prog w K mg base j "BadWeights" (He.ga K "BadWeights") 1 (fun ws => [("at", ws.getD 0 .non), ("word", .str "BadWeights")]) := fun base j hj => exk_BadWeights (leafV x20) (funOf Fx_BadWeights) Fb_TearError mx_BadWeights mb_TearError hj
  obtain ⟨fdx_NoMean, Fx_NoMean⟩ := cd.def_ 30 (d := dOf ("NoMean", some "__init__") "__init__" "NoMean.__init__" sI_NoMean [] []) rfl
  have mx_NoMean : mg "NoMean" = some (.ref (He.ga K "NoMean")) := He.glo_ok X G (cd.fact 30 (f := .glo "NoMean") rfl)
  have R_NoMean : ∀ (base : Heap) (j : Nat), 2 ≤ j → ExcK l.prog w K mg base j "NoMean" (He.ga K "NoMean") 0 (fun ws => [("word", .str "NoMean")]) := fun base j hj => exk_NoMean (leafV x21) (funOf Fx_NoMean) Fb_TearError mx_NoMean mb_TearError hj
  obtain ⟨fdx_BadText, Fx_BadText⟩ := cd.def_ 31 (d := dOf ("BadText", some "__init__") "__init__" "BadText.__init__" sI_BadText [] []) rfl
  have mx_BadText : mg "BadText" = some (.ref (He.ga K "BadText")) := He.glo_ok X G (cd.fact 31 (f := .glo "BadText") rfl)
  have R_BadText : ∀ (base : Heap) (j : Nat), 2 ≤ j → ExcK l.prog w K mg base j "BadText" (He.ga K "BadText") 1 (fun ws => [("at", ws.getD 0 .non), ("word", .str "BadText")]) := fun base j hj => exk_BadText (leafV x22) (funOf Fx_BadText) Fb_TearError mx_BadText mb_TearError hj
  obtain ⟨fdb_Missing, Fb_Missing⟩ := cd.def_ 32 (d := dOf ("Missing", some "__init__") "__init__" "Missing.__init__" sI_Missing [.str "Missing"] []) rfl
  have mb_Missing : mg "Missing" = some (.ref (He.ga K "Missing")) := He.glo_ok X G (cd.fact 32 (f := .glo "Missing") rfl)
  obtain ⟨fdx_NoPad, Fx_NoPad⟩ := cd.def_ 33 (d := dOf ("NoPad", some "__init__") "__init__" "NoPad.__init__" sI_NoPad [] []) rfl
  have mx_NoPad : mg "NoPad" = some (.ref (He.ga K "NoPad")) := He.glo_ok X G (cd.fact 33 (f := .glo "NoPad") rfl)
  have R_NoPad : ∀ (base : Heap) (j : Nat), 2 ≤ j → ExcK l.prog w K mg base j "NoPad" (He.ga K "NoPad") 1 (fun ws => [("pad", ws.getD 0 .non), ("word", .str "NoPad")]) := fun base j hj => exk_NoPad (leafL x23) (funOf Fx_NoPad) Fb_Missing mx_NoPad mb_Missing hj
  obtain ⟨fdx_NoFigure, Fx_NoFigure⟩ := cd.def_ 34 (d := dOf ("NoFigure", some "__init__") "__init__" "NoFigure.__init__" sI_NoFigure [] []) rfl
  have mx_NoFigure : mg "NoFigure" = some (.ref (He.ga K "NoFigure")) := He.glo_ok X G (cd.fact 34 (f := .glo "NoFigure") rfl)
  have R_NoFigure : ∀ (base : Heap) (j : Nat), 2 ≤ j → ExcK l.prog w K mg base j "NoFigure" (He.ga K "NoFigure") 1 (fun ws => [("figure", ws.getD 0 .non), ("word", .str "NoFigure")]) := fun base j hj => exk_NoFigure (leafL x24) (funOf Fx_NoFigure) Fb_Missing mx_NoFigure mb_Missing hj
  obtain ⟨fdx_NoNote, Fx_NoNote⟩ := cd.def_ 35 (d := dOf ("NoNote", some "__init__") "__init__" "NoNote.__init__" sI_NoNote [] []) rfl
  have mx_NoNote : mg "NoNote" = some (.ref (He.ga K "NoNote")) := He.glo_ok X G (cd.fact 35 (f := .glo "NoNote") rfl)
  have R_NoNote : ∀ (base : Heap) (j : Nat), 2 ≤ j → ExcK l.prog w K mg base j "NoNote" (He.ga K "NoNote") 1 (fun ws => [("depth", ws.getD 0 .non), ("word", .str "NoNote")]) := fun base j hj => exk_NoNote (leafL x25) (funOf Fx_NoNote) Fb_Missing mx_NoNote mb_Missing hj
  obtain ⟨fdb_Stuck, Fb_Stuck⟩ := cd.def_ 36 (d := dOf ("Stuck", some "__init__") "__init__" "Stuck.__init__" sI_Stuck [.str "Stuck"] []) rfl
  have mb_Stuck : mg "Stuck" = some (.ref (He.ga K "Stuck")) := He.glo_ok X G (cd.fact 36 (f := .glo "Stuck") rfl)
  obtain ⟨fdx_NothingBack, Fx_NothingBack⟩ := cd.def_ 37 (d := dOf ("NothingBack", some "__init__") "__init__" "NothingBack.__init__" sI_NothingBack [] []) rfl
  have mx_NothingBack : mg "NothingBack" = some (.ref (He.ga K "NothingBack")) := He.glo_ok X G (cd.fact 37 (f := .glo "NothingBack") rfl)
  have R_NothingBack : ∀ (base : Heap) (j : Nat), 2 ≤ j → ExcK l.prog w K mg base j "NothingBack" (He.ga K "NothingBack") 0 (fun ws => [("word", .str "NothingBack")]) := fun base j hj => exk_NothingBack (leafR x26) (funOf Fx_NothingBack) Fb_Stuck mx_NothingBack mb_Stuck hj
  obtain ⟨fdx_NothingAgain, Fx_NothingAgain⟩ := cd.def_ 38 (d := dOf ("NothingAgain", some "__init__") "__init__" "NothingAgain.__init__" sI_NothingAgain [] []) rfl
  have mx_NothingAgain : mg "NothingAgain" = some (.ref (He.ga K "NothingAgain")) := He.glo_ok X G (cd.fact 38 (f := .glo "NothingAgain") rfl)
  have R_NothingAgain : ∀ (base : Heap) (j : Nat), 2 ≤ j → ExcK l.prog w K mg base j "NothingAgain" (He.ga K "NothingAgain") 0 (fun ws => [("word", .str "NothingAgain")]) := fun base j hj => exk_NothingAgain (leafR x27) (funOf Fx_NothingAgain) Fb_Stuck mx_NothingAgain mb_Stuck hj
  have m_len : mg "len" = none := He.free_ok X G (cd.fact 39 (f := .free "len") rfl)
  have m_list : mg "list" = none := He.free_ok X G (cd.fact 40 (f := .free "list") rfl)
  have m_tuple : mg "tuple" = none := He.free_ok X G (cd.fact 41 (f := .free "tuple") rfl)
  have m_range : mg "range" = none := He.free_ok X G (cd.fact 42 (f := .free "range") rfl)
  have m_isinstance : mg "isinstance" = none := He.free_ok X G (cd.fact 43 (f := .free "isinstance") rfl)
  have m_all : mg "all" = none := He.free_ok X G (cd.fact 44 (f := .free "all") rfl)
  have m_bool : mg "bool" = none := He.free_ok X G (cd.fact 45 (f := .free "bool") rfl)
  have m_int : mg "int" = none := He.free_ok X G (cd.fact 46 (f := .free "int") rfl)
  have m_str : mg "str" = none := He.free_ok X G (cd.fact 47 (f := .free "str") rfl)
  have m_ValueError : mg "ValueError" = none := He.free_ok X G (cd.fact 48 (f := .free "ValueError") rfl)
  have m_LookupError : mg "LookupError" = none := He.free_ok X G (cd.fact 49 (f := .free "LookupError") rfl)
  have m_RuntimeError : mg "RuntimeError" = none := He.free_ok X G (cd.fact 50 (f := .free "RuntimeError") rfl)
  have e := hfa.symm.trans gW
  cases e
  obtain ⟨ocW, odW, kVW, dcW, pmW, anW, cdW, ctW, slW, eW, lW, cW⟩ := FW.ex
  subst eW
  obtain ⟨cLw, rfl⟩ := He.codeIn_ref cW
  refine ⟨PySem.W.fnOf "law" "law" (defArgs sLaw) (defBody sLaw) (defScope sLaw) .none kVW dcW pmW anW (.ref cLw) ctW, [], spLaw K, fun p hp => (nomatch hp), fun p hp => (nomatch hp), fun p hp => (nomatch hp), fun s u => .of_eq rfl, fun H a ns h1 h2 h3 h4 => ⟨a, ns, rfl, h4, h1, fun _ => rfl⟩, fun base hK hN hTB => ?_⟩
  have FW : Fun K "law" "law" sLaw (He.ga K "law") _ := fun_mk lW cW FW.kp
  have M : LkG mg := ⟨m_isinstance, m_tuple, m_list, m_len, m_all, m_range, m_bool, m_int, m_str⟩
  have mC : ∀ i, i < 28 → mg (rNm i) = some (.ref (He.ga K (rNm i))) := fun i hi => match i, hi with
    | 0, _ => mx_BadColours
    | 1, _ => mx_BadFigure
    | 2, _ => mx_Meeting
    | 3, _ => mx_TooMany
    | 4, _ => mx_TooFar
    | 5, _ => mx_BadOrder
    | 6, _ => mx_OtherColours
    | 7, _ => mx_OtherBook
    | 8, _ => mx_BadRow
    | 9, _ => mx_BadNote
    | 10, _ => mx_BadBeneath
    | 11, _ => mx_Full
    | 12, _ => mx_NoEnd
    | 13, _ => mx_NotStanding
    | 14, _ => mx_NeverClear
    | 15, _ => mx_BadDeed
    | 16, _ => mx_BadNumber
    | 17, _ => mx_NoBeginning
    | 18, _ => mx_Barred
    | 19, _ => mx_BadHeights
    | 20, _ => mx_BadWeights
    | 21, _ => mx_NoMean
    | 22, _ => mx_BadText
    | 23, _ => mx_NoPad
    | 24, _ => mx_NoFigure
    | 25, _ => mx_NoNote
    | 26, _ => mx_NothingBack
    | 27, _ => mx_NothingAgain
    | n + 28, hi => absurd hi (by omega)
  obtain ⟨T1, T2, T3⟩ := kinsB_ok mC mb_TearError mb_Missing mb_Stuck m_ValueError m_LookupError m_RuntimeError x28
  have RR : ∀ i, i < 28 → ExcK l.prog w K mg base 2 (rNm i) (cmOf K i) (rFl i).length (rFs i) := fun i hi => match i, hi with
    | 0, _ => (R_BadColours base 2 (by decide)).fs (fs1 (fun _ => rfl))
    | 1, _ => (R_BadFigure base 2 (by decide)).fs (fs1 (fun _ => rfl))
    | 2, _ => (R_Meeting base 2 (by decide)).fs (fs2 (fun _ _ => rfl))
    | 3, _ => (R_TooMany base 2 (by decide)).fs (fs1 (fun _ => rfl))
    | 4, _ => (R_TooFar base 2 (by decide)).fs (fs1 (fun _ => rfl))
    | 5, _ => (R_BadOrder base 2 (by decide)).fs (fs0 (rfl))
    | 6, _ => (R_OtherColours base 2 (by decide)).fs (fs0 (rfl))
    | 7, _ => (R_OtherBook base 2 (by decide)).fs (fs0 (rfl))
    | 8, _ => (R_BadRow base 2 (by decide)).fs (fs1 (fun _ => rfl))
    | 9, _ => (R_BadNote base 2 (by decide)).fs (fs1 (fun _ => rfl))
    | 10, _ => (R_BadBeneath base 2 (by decide)).fs (fs0 (rfl))
    | 11, _ => (R_Full base 2 (by decide)).fs (fs1 (fun _ => rfl))
    | 12, _ => (R_NoEnd base 2 (by decide)).fs (fs1 (fun _ => rfl))
    | 13, _ => (R_NotStanding base 2 (by decide)).fs (fs1 (fun _ => rfl))
    | 14, _ => (R_NeverClear base 2 (by decide)).fs (fs1 (fun _ => rfl))
    | 15, _ => (R_BadDeed base 2 (by decide)).fs (fs0 (rfl))
    | 16, _ => (R_BadNumber base 2 (by decide)).fs (fs1 (fun _ => rfl))
    | 17, _ => (R_NoBeginning base 2 (by decide)).fs (fs0 (rfl))
    | 18, _ => (R_Barred base 2 (by decide)).fs (fs1 (fun _ => rfl))
    | 19, _ => (R_BadHeights base 2 (by decide)).fs (fs1 (fun _ => rfl))
    | 20, _ => (R_BadWeights base 2 (by decide)).fs (fs1 (fun _ => rfl))
    | 21, _ => (R_NoMean base 2 (by decide)).fs (fs0 (rfl))
    | 22, _ => (R_BadText base 2 (by decide)).fs (fs1 (fun _ => rfl))
    | 23, _ => (R_NoPad base 2 (by decide)).fs (fs1 (fun _ => rfl))
    | 24, _ => (R_NoFigure base 2 (by decide)).fs (fs1 (fun _ => rfl))
    | 25, _ => (R_NoNote base 2 (by decide)).fs (fs1 (fun _ => rfl))
    | 26, _ => (R_NothingBack base 2 (by decide)).fs (fs0 (rfl))
    | 27, _ => (R_NothingAgain base 2 (by decide)).fs (fs0 (rfl))
    | n + 28, hi => absurd hi (by omega)
  exact (ok_law01 (k := 7) FW FB bB gB (ok_bag (k := 6) FB m_len m_list) FP bP gP (ok_pull (k := 6) FP m_len) FR bR gR ((ok_refs (k := 2) FR RR).mono (by decide)) FK bK gK ((ok_like FK bK gK M 4).mono (by decide)) FF bF gF (ok_flags (k := 6) FF m_isinstance T1) FN bN gN (ok_kin (k := 6) FN m_isinstance T1 T3) FV bV gV (ok_vals (k := 6) FV m_isinstance T1 T2) T2 m_range)
theorem hRun (w : World) : HandSHeadRun.RunEq hR (PySem.W.view hR.prog [40]) hK hOb 20000 hNames w := by
  intro os
  kernel_rfl
end TB
open PySem PySem.W PySem.Calls PyProof.Rows
set_option maxHeartbeats 0 in
theorem PySem.Challenge.cw_tearboard_k01_refusals_and_their_familie_holds : PySem.Challenge.rw_tearboard_k01_refusals_and_their_familie.Holds := by
  w_on; o_law
  refine HandSHeadRun.head_any (r := OpenLaw.row PySem.Challenge.rw_tearboard_k01_refusals_and_their_familie) (q := view (OpenLaw.row PySem.Challenge.rw_tearboard_k01_refusals_and_their_familie).prog [40]) (H := TB.hK) (ob := TB.hOb) (M := 20000) (loose := TB.hNames) (d := HandSHeadRun.topDef (OpenLaw.row PySem.Challenge.rw_tearboard_k01_refusals_and_their_familie).prog 40) (kwd := []) TB.hOb_eq
    (by kernel_rfl) (fun s => by kernel_rfl) TB.hRun (by kernel_rfl) (by kernel_rfl) (by kernel_rfl) (by rfl) (by first | assumption | decide +kernel) (by decide +kernel) ⟨rfl, rfl, rfl, rfl, rfl, by decide +kernel⟩ ?hw ?hc
  case hw => w_witness2
  case hc =>
    refine LamX.walk_ofTsE (l := PySem.Challenge.rw_tearboard_k01_refusals_and_their_familie) (n := 63) (k := 8) (x := "_law_script") (CX := fun _ => L2.CX0) rfl (by decide) (by kernel_rfl) ⟨rfl, by decide, by decide⟩ ?F (fun _ _ _ _ _ z => z)
    intro w mg fa h Y G hmg0
    obtain ⟨K, KX, c⟩ := Y
    have hmg : mg ("law" : PySem.Str) = some (.ref fa) := by
      have e : (HandSHeadRun.topDef (OpenLaw.row PySem.Challenge.rw_tearboard_k01_refusals_and_their_familie).prog 40).name = ("law" : PySem.Str) := by kernel_rfl
      rw [← e]
      exact hmg0
    exact ⟨K, KX, TB.hFacts KX G hmg c⟩
