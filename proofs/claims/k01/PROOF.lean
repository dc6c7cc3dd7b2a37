import PyProof.Rows.All
import Wide.All
import OpenK.AllK
import Wide.FinOn
import HandS.ForMost
import HandS.ForExc
import HandS.Head2
import HandS.HeadEnd
import HandS.HeadHook2
import HandS.ExcInit
import HandS.ExcField
import HandS.ExcIs
import HandS.ExcValue
import HandS.IsInst
import HandS.Defaults
import HandS.Flow
import KE.KExcInit
import KE.KExcIs
import KE.KTryMore
import HandS.Walk
import HandS.CallSlots
import HandS.Text
import HandS.Replace
import KE.IntTextLaws
import KE.IntTextText
import KE.KIntText
import KE.KxText
import PySem.Challenge.RW_pathbook_k01_names_numbers_days_and_rows
set_option Elab.async false
set_option linter.all false
set_option maxRecDepth 100000
set_option maxHeartbeats 0
namespace Pb
open PySem PySem.Spec PyProof.Rows L2
theorem dv (j : Int) (h : 0 < j := by decide) : 0 < j := h
theorem same_upd {H : Hp} {p : Addr} {o : HO} (h : H p = none) : Same H (upd H p o) := fun b x e => by
  rw [upd_ne (ne_of_none e h)]
  exact e
/-! ### two lists put together, the left one perhaps only to be read -/
section
variable {X : Cx}
def rCatS (K : PySem.W.Frag) : R2 := fun x y H Q => ∃ l b xs zs, x = .ref l ∧ y = .ref b ∧ SqL K H l xs ∧ SqL K H b zs ∧ xs.length + zs.length ≤ sizeLine ∧
  ∀ p, H p = none → Q (.ref p) (upd H p (.lst (xs ++ zs)))
theorem op_catS : OpR X (binaryOp .Add) (rCatS X.K) := by
  intro pins s σ H x y v u Q I rx ry hyp
  obtain ⟨l, b, xs, zs, ex, ey, hL, hB, hz, q⟩ := hyp
  subst ex ey
  cases rx; cases ry
  obtain ⟨i1, r1, ⟨o1, n1, g1, c1, d1, e1⟩, s1⟩ := I.list hL
  obtain ⟨i2, r2, ⟨o2, n2, g2, c2, d2, e2⟩, s2⟩ := I.list hB
  obtain ⟨k1, dd1, da1, sl1⟩ := o1
  obtain ⟨k2, dd2, da2, sl2⟩ := o2
  dsimp only at c1 d1 e1 c2 d2 e2
  subst c1 d1 e1 c2 d2 e2
  have l1 := r1.length
  have l2 := r2.length
  have ea : i1.toArray ++ i2.toArray = (i1 ++ i2).toArray := by simp
  have hs : i1.toArray.size + i2.toArray.size ≤ sizeLine := by simp; omega
  refine concat_meets ⟨_, g1, rfl⟩ ⟨_, g2, rfl⟩ noFill_list_add seq_list_add PySem.F.slot_list_add PySem.F.entry_list_add
    (PySem.F.args_list_add_2 _ _) (list_addW l b i1.toArray i2.toArray n1 n2 none none sl1 sl2 hs) ⟨g1, g2, ?_⟩
  rw [ea]
  exact ⟨.ref _, _, I.lnew (t' := s.toks) (r1.append r2) (by rw [List.length_append]; omega), rfl, q _ I.fresh⟩
end
end Pb

/-! ### an own exception class, over any built-in one, made with keywords too -/
namespace Pb
open PySem PySem.W Builtin Builtin.ObjectAttr
section
variable {M : Model} {prog : Program} {w : World} {A : Around} {E : Value → Shared → Prop} {R : Result → Shared → Prop} {h : Heap} {g : Array GenState} {d : Drawn} {t : Nat} {os : OsState}
variable {nm q : Str} {C N : Addr} {bs bm bmB : List Value} {hdct : Bool} {sn : List Str} {sub : List Value} {ab : Bool} {col : Option Bool} {dd : Option Addr} {k0 k1 k2 k3 k5 : Option Value} {B newId initId : String}
abbrev HasT (bm bmB : List Value) : Prop := ∀ T : String, bm.contains (.type T) = bmB.contains (.type T)
theorem kwNewCheck (FB : ExcBaseFacts B newId initId bmB) (hT : HasT bm bmB) {rest : List Value} {kw : List (Str × Value)} {Q : Unit → Shared → Prop}
    (hC : h.get? C = some (excClassObj nm q C N bs bm hdct sn sub ab col dd k0 k1 k2 k3 k5 newId)) (fin : Q () ⟨h, g, d, t, os⟩) :
    wpAny M A (checkBuiltinCall newId ⟨.ref C :: rest, kw⟩) Q E ⟨h, g, d, t, os⟩ := by
  have c1 : (Value.ref C :: bm).contains (.type B) = true := by
    rw [List.contains_cons, hT, FB.hasB, Bool.or_true]
  have c2 := FB.noStar
  simp only [checkBuiltinCall, FB.newKind, FB.newSplit, FB.newRow]
  repeat (first
    | refine wpAny_loadPart_at hC ?_
    | (refine wpAny_isSubtype_exc hC ?_; rw [c1])
    | refine wpAny_staticBase_exc hC ?_
    | refine wpAny_madeBy_exc hC ?_
    | simp only [bne_self_eq_false, Bool.false_eq_true, if_false]
    | wp_step)
  exact fin
theorem kwNew (FB : ExcBaseFacts B newId initId bmB) (hT : HasT bm bmB) {rest : List Value} {kw : List (Str × Value)}
    (hC : h.get? C = some (excClassObj nm q C N bs bm hdct sn sub ab col dd k0 k1 k2 k3 k5 newId)) (hz : rest.length ≤ sizeLine)
    (fin : R (.ok (.ret (.ref (h.objs.size + 1)))) ⟨(h.push (kdv_tup rest)).push (HandSPX.excO C h.objs.size), g, d, t, os⟩) :
    codeAny (model prog w) A (.builtin newId ⟨.ref C :: rest, kw⟩) R ⟨h, g, d, t, os⟩ := by
  have c0 := FB.ends
  have c1 : (Value.ref C :: bm).contains (.type B) = true := by
    rw [List.contains_cons, hT, FB.hasB, Bool.or_true]
  have c2 : (Value.ref C :: bm).contains (.type "AttributeError") = false := by
    rw [List.contains_cons, hT, FB.noAttr]
    rfl
  have c3 : (Value.ref C :: bm).contains (.type "NameError") = false := by
    rw [List.contains_cons, hT, FB.noName]
    rfl
  refine codeAny_builtinAt FB.entry ?_
  unfold Builtin.«BaseException.__new__»
  refine wpAt_bind ?_
  show wpAt _ _ _ (stack >>= _) _ _ _
  refine wpAt_bind (wpAt_stack fun p below => wpAt_of_wpAny ?_)
  wp_walk
  refine wpAt_of_wpAny ?_
  rw [FB.owner]
  repeat (first
    | with_reducible refine wpAny_madeHere_exc FB.canon hC ?_
    | with_reducible refine wpAny_loadPart_at hC ?_
    | (with_reducible refine wpAny_isSubtype_exc hC ?_; first | rw [c1] | rw [c2] | rw [c3])
    | wp_step)
  show R _ _
  rw [Heap.size_push]
  exact fin
theorem kwTypeCall (FB : ExcBaseFacts B newId initId bmB) (hT : HasT bm bmB) {rest : List Value} {kw : List (Str × Value)} {fI : Addr} {Q : Fin → Shared → Prop}
    (hC : h.get? C = some (excClassObj nm q C N bs bm hdct sn sub ab col dd k0 k1 k2 k3 k5 newId))
    (hi : Looks (model prog w) h (typeLookup (.ref C) "__init__") (some (.ref fI))) (hb : ∀ self, Looks (model prog w) h (bindSpecial (.ref fI) self) (.ref fI, [self])) (hz : rest.length ≤ sizeLine)
    (body : codeAny (model prog w) A (.call (.ref fI) ⟨.ref (h.objs.size + 1) :: rest, kw⟩)
      (fun r s' => match r with | .ok (.ret v) => v = .none ∧ Q (.done (.ret (.ref (h.objs.size + 1)))) s' | .ok _ => False | .error e => E e s')
      ⟨(h.push (kdv_tup rest)).push (HandSPX.excO C h.objs.size), g, d, t, os⟩) :
    wpAny (model prog w) A (Builtin.«type.__call__» ⟨.ref C :: rest, kw⟩) Q E ⟨h, g, d, t, os⟩ := by
  repeat (first
    | with_reducible refine wpAny_loadPart_at hC ?_
    | with_reducible refine wpAny_madeBy_exc hC ?_
    | wp_step)
  refine codeAny_call_builtin_code (Code.quiet_builtin _ FB.quiet) (kwNewCheck FB hT hC ?_)
  refine kwNew FB hT hC hz ?_
  show wpAny _ _ _ _ _ _
  have kp : ∀ b o, h.get? b = some o → ((h.push (kdv_tup rest)).push (HandSPX.excO C h.objs.size)).get? b = some o :=
    fun b o e => Heap.get?_push_of_some _ (Heap.get?_push_of_some _ e)
  have hC2 := kp _ _ hC
  have hE : ((h.push (kdv_tup rest)).push (HandSPX.excO C h.objs.size)).get? (h.objs.size + 1) = some (HandSPX.excO C h.objs.size) := by heap_get
  have cc : (Value.ref C :: bm).contains (.ref C) = true := by simp
  have j1 := hi.keeps kp
  have j2 := (hb (.ref (h.objs.size + 1))).keeps kp
  unfold isInstance
  repeat (first
    | with_reducible refine wpAny_loadPart_at hE ?_
    | (with_reducible refine wpAny_isSubtype_exc hC2 ?_; rw [cc])
    | wp_step)
  show wpAny _ _ (typeLookup (.ref C) _) _ _ _
  refine j1.at ?_
  refine wpAny_holding (wpAny_bind (j2.at ?_))
  refine wpAny_bind (wpAny_call (codeAny_mono body fun r s' z => ?_))
  rcases r with e | (v | _ | _ | _) <;> first | exact z | exact z.elim | skip
  obtain ⟨ev, z⟩ := z
  subst ev
  first
    | exact wpAny_pure (wpAny_pure z)
    | (wp_walk; exact z)
theorem kwCall (FB : ExcBaseFacts B newId initId bmB) (hT : HasT bm bmB) {rest : List Value} {kw : List (Str × Value)} {fI : Addr}
    (hC : h.get? C = some (excClassObj nm q C N bs bm hdct sn sub ab col dd k0 k1 k2 k3 k5 newId))
    (hi : Looks (model prog w) h (typeLookup (.ref C) "__init__") (some (.ref fI))) (hb : ∀ self, Looks (model prog w) h (bindSpecial (.ref fI) self) (.ref fI, [self])) (hz : rest.length ≤ sizeLine)
    (body : codeAny (model prog w) (A.under (.builtin "type.__call__" ⟨.ref C :: rest, kw⟩)) (.call (.ref fI) ⟨.ref (h.objs.size + 1) :: rest, kw⟩) (InitBack (h.objs.size + 1) R)
      ⟨(h.push (kdv_tup rest)).push (HandSPX.excO C h.objs.size), g, d, t, os⟩) :
    codeAny (model prog w) A (.call (.ref C) ⟨rest, kw⟩) R ⟨h, g, d, t, os⟩ := by
  have y1 := tc_lookup
  have y2 := tc_bind (.ref C)
  have y3 : (⟨h, g, d, t, os⟩ : Shared).TypeIs (.ref C) "type" := ⟨_, hC, rfl⟩
  refine codeAny_of_tree ?_
  show wpAny _ _ (callAny (.ref C) _) _ _ _
  repeat (any_goals (first | assumption | with_reducible refine wpAny_loadPart_at hC ?_ | wp_step))
  refine ⟨rfl, ?_⟩
  refine codeAny_call_builtin_at (Code.quiet_builtin _ (by decide +kernel)) entry_typeCall (wpAny_check_type_call_sub hC (kwTypeCall FB hT hC hi hb hz ?_))
  refine codeAny_mono body fun r s' z => ?_
  rcases r with e | (v | _ | _ | _) <;> exact z
end
end Pb

namespace Pb
open PySem PySem.W PyProof.Rows L2
/-- a built-in class that own exceptions stand under -/
structure XB (bmB : List Value) (newId : String) : Prop where
  ex : ∃ B initId, ExcBaseFacts B newId initId bmB ∧ StoreFacts B bmB "object.__setattr__" "object"
abbrev mroV : List Value := [.type "ValueError", .type "Exception", .type "BaseException", .type "object"]
abbrev mroL : List Value := [.type "LookupError", .type "Exception", .type "BaseException", .type "object"]
abbrev mroO : List Value := [.type "OverflowError", .type "ArithmeticError", .type "Exception", .type "BaseException", .type "object"]
theorem xbV : XB mroV "ValueError.__new__" := ⟨_, _, PySem.F.excBase_ValueError, PySem.F.store_ValueError⟩
theorem xbL : XB mroL "LookupError.__new__" := ⟨_, _, PySem.F.excBase_LookupError, PySem.F.store_LookupError⟩
theorem xbO : XB mroO "OverflowError.__new__" := ⟨_, _, PySem.F.excBase_OverflowError, PySem.F.store_OverflowError⟩
/-- what the written part says of an own exception class -/
structure XC (K : Frag) (C : Addr) (bmB : List Value) (newId : String) : Prop where
  ini : excInitIn K C bmB newId = true
  ovr : excOver K C bmB = true
  dic : hasDictIn K C = true
  sa : findIn K (.ref C) "__setattr__" = some (some (.builtin "object.__setattr__"))
  ga : findIn K (.ref C) "__getattribute__" = some (some (.builtin "BaseException.__getattribute__"))
  gg : findIn K (.ref C) "__getattr__" = some none
  cl : findIn K (.ref C) "__class__" = some (some (.builtin "object.__class__"))
  sub : subIn K (.ref C) (.type "BaseException") = some true
  ty : typeIn K (.ref C) = some (.type "type")
  kp : keepIn K (.ref C) = true
  ob : mroIn K C (.type "object") = some true
  sg : specialIn K (.builtin "object.__class__") "__get__" = some (some (.builtin "getset_descriptor.__get__"))
  tk : takesIn K (.builtin "object.__class__") = some true
def xcB (K : Frag) (C : Addr) (bmB : List Value) (newId : String) : Bool :=
  excInitIn K C bmB newId && (excOver K C bmB && (hasDictIn K C && (decide (findIn K (.ref C) "__setattr__" = some (some (.builtin "object.__setattr__"))) &&
  (decide (findIn K (.ref C) "__getattribute__" = some (some (.builtin "BaseException.__getattribute__"))) && (decide (findIn K (.ref C) "__getattr__" = some none) &&
  (decide (findIn K (.ref C) "__class__" = some (some (.builtin "object.__class__"))) && (decide (subIn K (.ref C) (.type "BaseException") = some true) &&
  (decide (typeIn K (.ref C) = some (.type "type")) && (keepIn K (.ref C) && (decide (mroIn K C (.type "object") = some true) &&
  (decide (specialIn K (.builtin "object.__class__") "__get__" = some (some (.builtin "getset_descriptor.__get__"))) && decide (takesIn K (.builtin "object.__class__") = some true))))))))))))
theorem xcB_ok {K : Frag} {C : Addr} {bmB : List Value} {newId : String} (h : xcB K C bmB newId = true) : XC K C bmB newId := by
  unfold xcB at h
  simp only [Bool.and_eq_true, decide_eq_true_eq] at h
  obtain ⟨h1, h2, h3, h4, h5, h6, h7, h8, h9, h10, h11, h12, h13⟩ := h
  exact ⟨h1, h2, h3, h4, h5, h6, h7, h8, h9, h10, h11, h12, h13⟩
section
variable {prog : Program} {w : World} {A : Around} {E : Value → Shared → Prop} {R : Result → Shared → Prop} {hp : Heap} {g : Array GenState} {d : Drawn} {t : Nat} {os : OsState} {K : Frag} {C x : Addr} {bmB : List Value} {newId : String} {name : Str} {tk : Tok} {v : Value}
theorem taker0 (ha : findIn K (.ref C) name = some none) : takerIn K C name = some none := by
  unfold takerIn
  rw [ha]
  rfl
/-- the first field of an exception -/
theorem xset_new {fv : Array Value} (B : XB bmB newId) (T : XC K C bmB newId) (X : K.In hp) (hx : hp.get? x = some { cls := .ref C, data := .fields fv }) (ha : findIn K (.ref C) name = some none)
    (fin : ∀ h' tk' dx, (∀ b o, b ≠ x → hp.get? b = some o → h'.get? b = some o) → hp.objs.size ≤ dx → dx ≠ x → h'.get? x = some { cls := .ref C, dict := some dx, data := .fields fv } →
      h'.Ns1 dx (fun y => if y = name then some v else none) → R (.ok (.ret .none)) ⟨h', g, d, tk', os⟩) :
    codeAny (model prog w) A (.call (.builtin "object.__setattr__") ⟨[.ref x, .str name tk, v], []⟩) R ⟨hp, g, d, t, os⟩ := by
  obtain ⟨Bn, ii, FB, SF⟩ := B.ex
  have xs : x ≠ hp.objs.size := Nat.ne_of_lt (Heap.lt_size hx)
  obtain ⟨cd, hcd, hdd⟩ := any_some T.dic
  have lk : Looks (model prog w) hp (classData C) cd := looks_clsIn X hcd
  refine osa_openX (s := ⟨hp, g, d, t, os⟩) (od := none) SF X ⟨hx, rfl, rfl, trivial⟩ T.ovr (taker0 ha) fun b => ?_
  obtain ⟨m1, m2, m3, m4, m5, m6, m7, m8, m9, m10, m11⟩ := cd
  dsimp only at hdd
  subst hdd
  dsimp only
  unfold Builtin.ObjectAttr.storeInOwnDict Builtin.ObjectAttr.ownDictForStores
  repeat (first
    | with_reducible refine HandSPX.store_in_new ?_ ?_
    | with_reducible refine wpAny_loadPart_at hx ?_
    | with_reducible refine lk.at ?_
    | wp_step)
  · exact ⟨_, #[], _, (Heap.get?_update_ne _ _ _ _ xs.symm).trans (Heap.get?_push_at rfl rfl), rfl, fun e he => absurd he (by simp), fun _ => rfl⟩
  · intro h' tk' hn sb
    have hx2 : (hp.push { cls := .type "dict", data := .dict #[] }).get? x = some { cls := .ref C, data := .fields fv } := Heap.get?_push_of_some _ hx
    refine fin h' tk' hp.objs.size (fun b o hb ho => ?_) (Nat.le_refl _) xs.symm ?_ hn
    · exact (sb.2 b (Nat.ne_of_lt (Heap.lt_size ho))).trans ((Heap.get?_update_ne _ _ _ _ hb).trans (Heap.get?_push_of_some _ ho))
    · exact (sb.2 x xs).trans (Heap.get?_update_self _ hx2 rfl)
/-- a further field -/
theorem xset_old {fv : Array Value} {dx : Addr} {m0 : Str → Option Value} {nl : List Str} (B : XB bmB newId) (T : XC K C bmB newId) (X : K.In hp) (hx : hp.get? x = some { cls := .ref C, dict := some dx, data := .fields fv })
    (hns : hp.Ns1 dx m0) (hw : Within m0 nl) (hz : nl.length ≤ 1000) (ha : findIn K (.ref C) name = some none)
    (fin : ∀ h' tk', (∀ b o, b ≠ dx → hp.get? b = some o → h'.get? b = some o) → h'.Ns1 dx (fun y => if y = name then some v else m0 y) → R (.ok (.ret .none)) ⟨h', g, d, tk', os⟩) :
    codeAny (model prog w) A (.call (.builtin "object.__setattr__") ⟨[.ref x, .str name tk, v], []⟩) R ⟨hp, g, d, t, os⟩ := by
  obtain ⟨Bn, ii, FB, SF⟩ := B.ex
  obtain ⟨oD, esD, epD, hoD, hdD, _⟩ := hns.count hw
  obtain ⟨cd, hcd, hdd⟩ := any_some T.dic
  have lk : Looks (model prog w) hp (classData C) cd := looks_clsIn X hcd
  refine osa_openX (s := ⟨hp, g, d, t, os⟩) (od := some oD) SF X ⟨hx, rfl, rfl, hoD⟩ T.ovr (taker0 ha) fun b => ?_
  obtain ⟨m1, m2, m3, m4, m5, m6, m7, m8, m9, m10, m11⟩ := cd
  dsimp only at hdd
  subst hdd
  dsimp only
  unfold Builtin.ObjectAttr.storeInOwnDict Builtin.ObjectAttr.ownDictForStores
  repeat (first
    | with_reducible refine OEX.store_in_old hns hw hz ?_
    | with_reducible refine wpAny_loadPart_at hx ?_
    | with_reducible refine lk.at ?_
    | wp_step)
  intro h' tk' hn sb
  exact fin h' tk' (fun b o hb ho => (sb.2 b hb).trans ho) hn
end
section
variable {X : Cx} {pins : List (Addr × Obj)} {σ : L2.St} {H : Hp} {s : Shared} {a C dx : Addr} {f : Str} {y : V} {u : Value} {fs : List (Str × V)} {Q : Unit → Shared → Prop} {E : Value → Shared → Prop} {A : Around} {bmB : List Value} {newId : String}
theorem xst_new (B : XB bmB newId) (T : XC X.K C bmB newId) (I : Inv X pins σ H s) (e : H a = some (exo a C none)) (hno : findIn X.K (.ref C) f = some none) (ry : RelV y u)
    (fin : ∀ dx s', H dx = none → dx ≠ a → Inv X pins σ (upd (upd H dx (exd dx [(f, y)])) a (exo a C (some dx))) s' → Q () s') : wpAny (model X.prog X.w) A (setAttr (.ref a) f u) Q E s := by
  obtain ⟨t1, ho⟩ := exo_at I.hok e
  obtain ⟨hp, g, d, t, os⟩ := s
  refine set_plain I.kIn (ox := { cls := .ref C, dict := none, data := .fields #[.ref t1, .none, .none, .none, .bool false, .none] }) (od := none) ⟨ho, rfl, rfl, trivial⟩ T.sa ?_
  refine xset_new B T I.kIn ho hno (fun h' tk' dx k dn dne hx hn => ?_)
  have fr : H dx = none := I.hok.fresh dn
  have nd : ∀ {b : Addr} {o : Obj}, hp.get? b = some o → b ≠ dx := fun {b o} z => Nat.ne_of_lt (Nat.lt_of_lt_of_le (Heap.lt_size z) dn)
  have na : ∀ {b : Addr}, H b = none → b ≠ a := fun {b} n z => by
    rw [z, e] at n
    cases n
  have UU : Un X.fs [] H (upd (upd H dx (exd dx [(f, y)])) a (exo a C (some dx))) hp h' :=
    { keep := fun b o z n _ _ => k b o (na n) z
      slot := fun b o z n _ _ => ⟨o.slots, k b o (na n) z⟩
      free := fun b o z n _ => by
        rw [upd_ne (na n), upd_ne (nd z)]
        exact n
      there := fun b o z _ => by
        by_cases hb : b = a
        · exact ⟨_, by rw [hb]; exact hx⟩
        · exact ⟨o, k b o hb z⟩
      tups := fun b xs z => by
        rw [upd_ne (at_ne e z exo_tup), upd_ne (ne_of_none z fr)]
        exact z
      frzs := fun b o v z => by
        rw [upd_ne (at_ne e z exo_frz), upd_ne (ne_of_none z fr)]
        exact z
      tbls := fun b ps z => ⟨#[], by rw [upd_ne (at_ne e z exo_tbl), upd_ne (ne_of_none z fr), z]; simp⟩ }
  refine fin dx _ fr dne (I.un (t' := tk') UU fun b o z => ?_)
  by_cases hb : b = a
  · subst hb
    rw [upd_same] at z
    cases z
    exact exo_ok hx
  · rw [upd_ne hb] at z
    by_cases hd : b = dx
    · subst hd
      rw [upd_same] at z
      cases z
      exact exd_ok hn (relO_put (fs := []) ry fun g => True.intro)
    · rw [upd_ne hd] at z
      refine (I.hok b o z).stay (fun c v hc r => k c v ?_ r) (fun c hc => ?_) (fun c xs hc => ?_)
      · rcases hc with hc | hc
        · rw [hc]
          exact hb
        · exact at_ne e hc exo_own
      · rw [upd_ne (at_ne e hc exo_own), upd_ne (ne_of_none hc fr)]
        exact hc
      · rw [upd_ne (at_ne e hc exo_tup), upd_ne (ne_of_none hc fr)]
        exact hc
theorem xst_old (B : XB bmB newId) (T : XC X.K C bmB newId) (I : Inv X pins σ H s) (e : H a = some (exo a C (some dx))) (ed : H dx = some (exd dx fs)) (hl : fs.length ≤ 900) (hno : findIn X.K (.ref C) f = some none) (ry : RelV y u)
    (fin : ∀ s', Inv X pins σ (upd H dx (exd dx ((f, y) :: fs))) s' → Q () s') : wpAny (model X.prog X.w) A (setAttr (.ref a) f u) Q E s := by
  obtain ⟨t1, ho⟩ := exo_at I.hok e
  obtain ⟨mA, hns, rel⟩ := exd_at I.hok ed
  have hw := within_of rel
  obtain ⟨hp, g, d, t, os⟩ := s
  obtain ⟨oD, _, _, hoD, _, _⟩ := hns.count hw
  refine set_plain I.kIn (ox := { cls := .ref C, dict := some dx, data := .fields #[.ref t1, .none, .none, .none, .bool false, .none] }) (od := some oD) ⟨ho, rfl, rfl, hoD⟩ T.sa ?_
  refine xset_old B T I.kIn ho hns hw (by rw [List.length_map]; omega) hno (fun h' tk' k hn => ?_)
  have hd : ∃ o, h'.get? dx = some o := by
    obtain ⟨o, _, _, e', _⟩ := hn
    exact ⟨o, e'⟩
  exact fin _ (I.write (t' := tk') (x := dx) (e := dx) (o := exd dx ((f, y) :: fs)) (by rw [ed]; exact True.intro) (.inl rfl) k hd (exd_ok hn (relO_put ry rel)))
end
/-- self.f = e, self an exception -/
def tXst (K : Frag) (f : Str) (to te : TE) : TS := fun D σ H => te σ H fun y H1 => to σ H1 fun x H2 => ∃ (a C : Addr) (bmB : List Value) (newId : String), x = .ref a ∧ XB bmB newId ∧ XC K C bmB newId ∧ findIn K (.ref C) f = some none ∧
  ((H2 a = some (exo a C none) ∧ ∀ dx, H2 dx = none → dx ≠ a → D.nx σ (upd (upd H2 dx (exd dx [(f, y)])) a (exo a C (some dx)))) ∨
    ∃ (dx : Addr) (fs : List (Str × V)), H2 a = some (exo a C (some dx)) ∧ H2 dx = some (exd dx fs) ∧ fs.length ≤ 900 ∧ D.nx σ (upd H2 dx (exd dx ((f, y) :: fs))))
/-- C(..), C an own exception class with an __init__ of its own: a new exception -/
def tXnew (C : Addr) (n m : Nat) (sp : Sp) (gV : List V → List V → List V) (t tk : TA) : TE := fun σ H Q => t σ H fun vs H1 => tk σ H1 fun zs H2 => vs.length = n ∧ zs.length = m ∧ n ≤ 1000 ∧
  ∀ a, H2 a = none → sp (gV (.ref a :: vs) zs) (upd H2 a (exo a C none)) (fun v H3 => v = .non ∧ Q (.ref a) H3) (fun _ _ _ => False)
section
variable {X : Cx} {o e : Expr} {es : List Expr} {kws : List Keyword} {to te : TE} {t tk : TA} {f : Str} {p p' p1 p2 pos : Pos} {bmB : List Value} {newId : String}
theorem ps_xst (ho : PE X o to) (he : PE X e te) (hs : swapsWith e (some (.Attribute o f p')) pos.line X.env = pure false := by rfl) : PS X (.Assign [.Attribute o f p'] e pos) (tXst X.K f to te) := by
  refine ⟨fun pins s σ H D I h => ?_⟩
  refine plainObj_wpAny_Assign_Attribute (thn (he.run pins s σ H _ I h) fun v s1 z => ?_) hs
  obtain ⟨y, H1, I1, r1, q1⟩ := z
  refine thn (ho.run pins s1 σ H1 _ I1 q1) fun u s2 z2 => ?_
  obtain ⟨x, H2, I2, r2, a, C, bb, nn, ex, B, T, hno, q⟩ := z2
  subst ex
  cases (show u = Value.ref a from r2)
  rcases q with ⟨ea, q⟩ | ⟨dx, fs, ea, ed, hl, q⟩
  · exact xst_new B T I2 ea hno r1 fun dx s' n ne J => ⟨σ, _, J, q dx n ne⟩
  · exact xst_old B T I2 ea ed hl hno r1 fun s' J => ⟨σ, _, J, q⟩
variable {CX : CXT} {x : Str} {C fI : Addr} {k n : Nat} {fd : FuncData} {ps ks : List Str} {sp : Sp} {gg : List Value → List Value → List Value} {gV : List V → List V → List V}
theorem xnew_run {pins : List (Addr × Obj)} {σ : L2.St} {H : Hp} {s : Shared} {Q : VK} {us ws : List Value} {vs zs : List V} (B : XB bmB newId) (T : XC X.K C bmB newId) (iC : findIn X.K (.ref C) "__init__" = some (some (.ref fI))) (tI : typeIn X.K (.ref fI) = some (.type "function"))
    (F1 : FnOk X.prog X.w X.K X.mg X.base CX k fI fd ps sp) (hr : Room (k + 1) X.A) (hb : KBn X.K fd ps (n + 1) ks gg gV) (hx : Passes CX X (fun _ _ _ => False)) (I1 : Inv X pins σ H s) (r1 : Vals vs us) (rz : Vals zs ws) (l1 : vs.length = n) (l2 : zs.length = ks.length) (hz : n ≤ 1000)
    (q1 : ∀ a, H a = none → sp (gV (.ref a :: vs) zs) (upd H a (exo a C none)) (fun v H3 => v = .non ∧ Q (.ref a) H3) (fun _ _ _ => False)) :
    wpAny (model X.prog X.w) X.A (call (.ref C) us (ks.zip ws)) (EP X pins σ Q) X.xe s := by
  obtain ⟨Bn, ii, FB, SF⟩ := B.ex
  obtain ⟨nm, N', qn, bs, bm, hdct, sn, sub, ab, col, dd, k0, k1, k2, k3, k5, hC, hT⟩ := excInit_of I1.kIn T.ini
  obtain ⟨hp, g, dr, tk, os⟩ := s
  have sz : hp.objs.size ≤ hp.objs.size + 1 := Nat.le_succ _
  have hn : H (hp.objs.size + 1) = none := I1.hok.fresh sz
  have hq := q1 (hp.objs.size + 1) hn
  have kk : ∀ b o, hp.get? b = some o → ((hp.push (kdv_tup us)).push (HandSPX.excO C hp.objs.size)).get? b = some o := fun b o e => Heap.get?_push_of_some _ (Heap.get?_push_of_some _ e)
  have hget : ((hp.push (kdv_tup us)).push (HandSPX.excO C hp.objs.size)).get? (hp.objs.size + 1) = some (HandSPX.excO C hp.objs.size) := by heap_get
  have I2 : Inv X pins σ (upd H (hp.objs.size + 1) (exo (hp.objs.size + 1) C none)) ⟨(hp.push (kdv_tup us)).push (HandSPX.excO C hp.objs.size), g, dr, tk, os⟩ :=
    I1.laid (t' := tk) (a := hp.objs.size + 1) (o := exo (hp.objs.size + 1) C none) (h' := (hp.push (kdv_tup us)).push (HandSPX.excO C hp.objs.size)) kk sz (exo_ok hget)
  have e1 : us.length = n := r1.length.symm.trans l1
  have e2 : ws.length = ks.length := rz.length.symm.trans l2
  have r2 := hb.rel (Paired.cons (show RelV (V.ref (hp.objs.size + 1)) (Value.ref (hp.objs.size + 1)) from rfl) r1) rz
  have hus : us.length ≤ sizeLine := by rw [e1, sizeLine_eq]; omega
  refine wpAny_call (kwCall FB hT hC (looks_findIn I1.kIn iC) (fun self => bind_fn I1.kIn self tI) hus
    (codeAny_mono (F1.run _ X.stack _ _ ⟨Value.ref (hp.objs.size + 1) :: us, ks.zip ws⟩ (gg (Value.ref (hp.objs.size + 1) :: us) ws) _ _ (fun _ _ _ => False) (hr.make C us (ks.zip ws)) (I2.env0.make C us (ks.zip ws))
      (hb.to _ (Value.ref (hp.objs.size + 1) :: us) ws I2.kIn (by rw [List.length_cons, e1]) e2) r2 hq) fun r s' hq' => ?_))
  cases r with
  | error er => exact hx pins σ _ _ er s' I2 hq'
  | ok fl =>
    cases fl with
    | ret u =>
      obtain ⟨v, H3, I3, rv, ev, q3⟩ := I2.after hq'
      subst ev
      exact ⟨rv, ⟨V.ref (hp.objs.size + 1), H3, I3, rfl, q3⟩⟩
    | next => exact False.elim hq'
    | brk => exact False.elim hq'
    | cont => exact False.elim hq'
/-- C(e, ..) -/
theorem pe_xnew (B : XB bmB newId) (T : XC X.K C bmB newId) (iC : findIn X.K (.ref C) "__init__" = some (some (.ref fI))) (tI : typeIn X.K (.ref fI) = some (.type "function"))
    (F1 : FnOk X.prog X.w X.K X.mg X.base CX k fI fd ps sp) (hr : Room (k + 1) X.A) (hb : KBn X.K fd ps (n + 1) [] gg gV) (hx : Passes CX X (fun _ _ _ => False)) (hg : Gl X x) (hm : X.mg x = some (.ref C)) (ha : PA X (e :: es) t)
    (hdb : (x == ("__debug__" : Str)) = false := by decide) (he : starEach (e :: es) X.env = (false, eval e X.env) :: starEach es X.env := by rfl) (hpl : (backTo pos (starEach es X.env)).any (·.1) = false := by rfl) :
    PE X (.Call (.Name x p) (e :: es) [] pos) (tXnew C n 0 sp gV t tNil) := by
  refine ⟨fun pins s σ H Q I h => ?_⟩
  refine wpAny_Call_Name_kw (ld_glob I hg hm ?_ hdb)
  refine callWith_K (h₀ := X.base) I.ok.mod.kin T.kp (thn (ha.run pos pins s σ H _ I h) fun us s1 z => ?_) he hpl
  obtain ⟨vs, H1, I1, r1, l1, l2, hz, q1⟩ := z
  exact ⟨I1.kIn, xnew_run (ks := []) (ws := []) (zs := []) B T iC tI F1 hr hb hx I1 r1 .nil l1 rfl hz q1⟩
/-- C() -/
theorem pe_xnew0 (B : XB bmB newId) (T : XC X.K C bmB newId) (iC : findIn X.K (.ref C) "__init__" = some (some (.ref fI))) (tI : typeIn X.K (.ref fI) = some (.type "function"))
    (F1 : FnOk X.prog X.w X.K X.mg X.base CX k fI fd ps sp) (hr : Room (k + 1) X.A) (hb : KBn X.K fd ps 1 [] gg gV) (hx : Passes CX X (fun _ _ _ => False)) (hg : Gl X x) (hm : X.mg x = some (.ref C))
    (hdb : (x == ("__debug__" : Str)) = false := by decide) : PE X (.Call (.Name x p) [] [] pos) (tXnew C 0 0 sp gV tNil tNil) := by
  refine ⟨fun pins s σ H Q I h => ?_⟩
  refine wpAny_Call_Name_kw (ld_glob I hg hm ?_ hdb)
  obtain ⟨l1, l2, hz, q1⟩ := h
  exact callWith_K0 I.kIn T.kp (xnew_run (ks := []) (ws := []) (zs := []) (us := []) (vs := []) (n := 0) B T iC tI F1 hr hb hx I .nil .nil rfl rfl hz q1)
/-- C(k = e, ..) -/
theorem pe_xnewK (B : XB bmB newId) (T : XC X.K C bmB newId) (iC : findIn X.K (.ref C) "__init__" = some (some (.ref fI))) (tI : typeIn X.K (.ref fI) = some (.type "function"))
    (F1 : FnOk X.prog X.w X.K X.mg X.base CX k fI fd ps sp) (hr : Room (k + 1) X.A) (hb : KBn X.K fd ps 1 ks gg gV) (hx : Passes CX X (fun _ _ _ => False)) (hg : Gl X x) (hm : X.mg x = some (.ref C)) (hkw : PK X kws tk)
    (hall : (backToKw pos (keywordEach kws X.env)).all (·.1.isSome) = true := by rfl) (hks : (backToKw pos (keywordEach kws X.env)).filterMap (·.1) = ks := by rfl) (hdb : (x == ("__debug__" : Str)) = false := by decide)
    (hpl : ((backTo pos (starEach [] X.env)).any (·.1) || (backToKw pos (keywordEach kws X.env)).any (·.1.isNone)) = false := by rfl) :
    PE X (.Call (.Name x p) [] kws pos) (tXnew C 0 ks.length sp gV tNil tk) := by
  refine ⟨fun pins s σ H Q I h => ?_⟩
  refine wpAny_Call_Name_kw (ld_glob I hg hm ?_ hdb)
  refine callWith_KW0 (h₀ := X.base) I.ok.mod.kin T.kp hall (thn (hkw.run pos pins s σ H _ I h) fun ws s2 z => ?_) hpl
  obtain ⟨zs, H2, I2, rz, l1, l2, hz, q2⟩ := z
  refine ⟨I2.kIn, ?_⟩
  rw [hks]
  exact xnew_run (us := []) (vs := []) (n := 0) B T iC tI F1 hr hb hx I2 .nil rz rfl l2 hz q2
/-- C(), C without an __init__ of its own -/
theorem pe_xbare {Bn ii : String} (FB : ExcBaseFacts Bn newId ii bmB) (q : excIn X.K C bmB newId = true) (kC : keepIn X.K (.ref C) = true) (hg : Gl X x) (hm : X.mg x = some (.ref C)) (hdb : (x == ("__debug__" : Str)) = false := by decide) :
    PE X (.Call (.Name x p) [] [] pos) (fun σ H Q => ∀ a, H a = none → Q (.ref a) (upd H a (exo a C none))) := by
  refine ⟨fun pins s σ H Q I h => ?_⟩
  refine wpAny_Call_Name_kw (ld_glob I hg hm ?_ hdb)
  refine callWith_K0 I.kIn kC ?_
  show wpAny _ _ (call (.ref C) []) _ _ _
  obtain ⟨bm, N, nm, qn, bs, hdct, sn, sub, ab, col, dd, k0, k1, k2, k3, k5, mN, hC, hN, hni, T⟩ := exc_obj I.kIn q
  refine wpAny_call_exc_subT FB T hC hN hni (fun h' a hm => ?_) (Nat.zero_le _)
  have hn : H a = none := I.hok.gone hm.new
  obtain ⟨t, ht, _, _⟩ := hm.there
  exact ⟨.ref a, upd H a (exo a C none), I.laidN hm.keeps hm.new hn (exo_ok ht), rfl, h a hn⟩
end
end Pb

namespace Pb
open PySem PySem.W PyProof.Rows L2
/-- an exception that was caught and is kept: at a, of the class D, its dict -/
def exk (a : Addr) (D : Value) (d : Option Addr) : HO := .ext fun h => ∃ (oe : Obj) (vs : Array Value), h.get? a = some oe ∧ Zc D d oe ∧ oe.data = .fields vs
/-- an exception of the class at D, made or kept; its fields, if it has any -/
def ExI (H : Hp) (a D : Addr) : Option (List (Str × V)) → Prop
  | none => H a = some (exo a D none) ∨ H a = some (exk a (.ref D) none)
  | some fs => ∃ dx, (H a = some (exo a D (some dx)) ∧ H dx = some (exd dx fs)) ∨ (H a = some (exk a (.ref D) (some dx)) ∧ H dx = some (.xd fs))
theorem exk_ok {P : Program} {w : World} {H : Hp} {h : Heap} {a : Addr} {D : Value} {d : Option Addr} {oe : Obj} {vs : Array Value} (e : h.get? a = some oe) (z : Zc D d oe) (dd : oe.data = .fields vs) : ObjOk P w H h a (exk a D d) :=
  ⟨⟨oe, vs, e, z, dd⟩, ⟨oe, e⟩, fun _ _ ⟨o, v, q, r⟩ k => ⟨o, v, k o q, r⟩⟩
theorem exk_at {P : Program} {w : World} {H : Hp} {h : Heap} {a : Addr} {D : Value} {d : Option Addr} (hok : HOk P w H h) (e : H a = some (exk a D d)) : ∃ (oe : Obj) (vs : Array Value), h.get? a = some oe ∧ Zc D d oe ∧ oe.data = .fields vs := by
  have x : ObjOk P w H h a (.ext fun h => ∃ (oe : Obj) (vs : Array Value), h.get? a = some oe ∧ Zc D d oe ∧ oe.data = .fields vs) := hok a _ e
  exact x.1
theorem exI_inst {P : Program} {w : World} {H : Hp} {h : Heap} {a D : Addr} {fs : Option (List (Str × V))} (hok : HOk P w H h) (x : ExI H a D fs) :
    ∃ ox od, InstAt h a ox D od ∧ ∀ l, fs = some l → ∃ o, od = some o ∧ ∀ n v, l.lookup n = some v → ∃ u, lookIn n o = some (some u) ∧ RelV v u := by
  have fin : ∀ {dx : Addr} {ox : Obj} {vs : Array Value} {l : List (Str × V)} {mA : Str → Option Value}, h.get? a = some ox → ox.cls = .ref D → ox.dict = some dx → ox.data = .fields vs → h.Ns1 dx mA → (∀ f, RelO (l.lookup f) (mA f)) →
      ∃ ox od, InstAt h a ox D od ∧ ∀ l', some l = some l' → ∃ o, od = some o ∧ ∀ n v, l'.lookup n = some v → ∃ u, lookIn n o = some (some u) ∧ RelV v u := fun {dx ox vs l mA} e c dd dt hn rel => by
    obtain ⟨od, ho, hl⟩ := lookIn_ns hn
    refine ⟨ox, some od, ⟨e, c, by unfold notCls; rw [dt], by rw [dd]; exact ho⟩, fun l' el => ⟨od, rfl, fun n v hv => ?_⟩⟩
    cases el
    obtain ⟨u, hu, ru⟩ := RelO.some_of (v := v) (o := mA n) (by rw [← hv]; exact rel n)
    exact ⟨u, by rw [hl, hu], ru⟩
  cases fs with
  | none =>
    rcases x with x | x
    · obtain ⟨t1, e⟩ := exo_at hok x
      exact ⟨_, none, ⟨e, rfl, rfl, trivial⟩, fun l z => by cases z⟩
    · obtain ⟨oe, vs, e, z, dt⟩ := exk_at hok x
      exact ⟨oe, none, ⟨e, z.1, by unfold notCls; rw [dt], by rw [z.2]; trivial⟩, fun l z => by cases z⟩
  | some l =>
    obtain ⟨dx, ⟨x, y⟩ | ⟨x, y⟩⟩ := x
    · obtain ⟨t1, e⟩ := exo_at hok x
      obtain ⟨mA, hn, rel⟩ := exd_at hok y
      exact fin e rfl rfl rfl hn rel
    · obtain ⟨oe, vs, e, z, dt⟩ := exk_at hok x
      obtain ⟨mA, hn, rel⟩ := hok dx _ y
      exact fin e z.1 z.2 dt hn rel
/-- isinstance(e, c) of such an exception, c a class -/
def rIsX (K : Frag) : List V → Hp → VK → Prop := fun xs H Q => ∃ (a D : Addr) (fs : Option (List (Str × V))) (bmB : List Value) (newId : String) (c : V) (cv : Value) (b : Bool),
  xs = [.ref a, c] ∧ ExI H a D fs ∧ XC K D bmB newId ∧ RelV c cv ∧ (∀ u, RelV c u → u = cv) ∧ kitOne K (.ref D) cv = some b ∧ Q (.bl b) H
/-- .. c a tuple of classes -/
def rIsXT (K : Frag) : List V → Hp → VK → Prop := fun xs H Q => ∃ (a D t : Addr) (fs : Option (List (Str × V))) (bmB : List Value) (newId : String) (cs : List V) (cvs : List Value) (b : Bool),
  xs = [.ref a, .ref t] ∧ ExI H a D fs ∧ XC K D bmB newId ∧ SqT K H t cs ∧ (∀ us, Vals cs us → us = cvs) ∧ kitAny K (.ref D) cvs = some b ∧ Q (.bl b) H
section
variable {X : Cx}
theorem xc_cls {K : Frag} {C : Addr} {bmB : List Value} {newId : String} (T : XC K C bmB newId) : (clsIn K C).isSome = true := by
  obtain ⟨cd, h, _⟩ := any_some T.dic
  rw [h]
  rfl
theorem call_isX : CallR X (.builtin "isinstance") (rIsX X.K) := by
  intro pins s σ H xs us Q I r hyp
  obtain ⟨a, D, fs, bmB, newId, c, cv, b, ex, hx, T, _, hcv, e, q⟩ := hyp
  subst ex
  cases r with
  | cons rx rr =>
    cases rr with
    | cons rt rn =>
      cases rn
      cases rx
      have ec := hcv _ rt
      subst ec
      obtain ⟨ox, od, J, _⟩ := exI_inst I.hok hx
      exact kia_one (kitx_exc (xc_cls T) T.ga T.gg T.sub T.cl T.sg T.tk T.ob) I.kIn J e (fun z => nomatch z) fun tk => ⟨.bl b, H, I.kept (t' := tk) fun _ _ z => z, rfl, q⟩
theorem call_isXT : CallR X (.builtin "isinstance") (rIsXT X.K) := by
  intro pins s σ H xs us Q I r hyp
  obtain ⟨a, D, t, fs, bmB, newId, cs, cvs, b, ex, hx, T, hT, hcv, e, q⟩ := hyp
  subst ex
  cases r with
  | cons rx rr =>
    cases rr with
    | cons rt rn =>
      cases rn
      cases rx
      cases rt
      obtain ⟨its, rv, ⟨o, g1, g2, n, g3⟩, _⟩ := I.tuple hT
      have ec := hcv _ rv
      subst ec
      obtain ⟨oc, od, oda, osl⟩ := o
      dsimp only at g2 g3
      subst g2 g3
      obtain ⟨ox, od', J, _⟩ := exI_inst I.hok hx
      exact kia_tup (kitx_exc (xc_cls T) T.ga T.gg T.sub T.cl T.sg T.tk T.ob) I.kIn J g1 e (fun z => nomatch z) fun tk => ⟨.bl b, H, I.kept (t' := tk) fun _ _ z => z, rfl, q⟩
/-- e.f of such an exception -/
def tXfld (K : Frag) (n : Str) (te : TE) : TE := fun σ H Q => te σ H fun x H1 => ∃ (a D : Addr) (fs : List (Str × V)) (bmB : List Value) (newId : String) (v : V), x = .ref a ∧ ExI H1 a D (some fs) ∧ XC K D bmB newId ∧ findIn K (.ref D) n = some none ∧ fs.lookup n = some v ∧ Q v H1
theorem pe_xfld {e : Expr} {te : TE} {pos : Pos} {n : Str} (he : PE X e te) (hb : attributeBase e n X.env (eval e X.env) = eval e X.env := by rfl) : PE X (.Attribute e n pos) (tXfld X.K n te) := by
  refine ⟨fun pins s σ H Q I h => ?_⟩
  refine attr_of hb (thn (he.run pins s σ H _ I h) fun u s1 hh => ?_)
  obtain ⟨x, H1, I1, rx, a, D, fs, bmB, newId, v, ex, hx, T, hno, hl, q⟩ := hh
  subst ex
  cases (show u = Value.ref a from rx)
  obtain ⟨ox, od, J, hf⟩ := exI_inst I1.hok hx
  obtain ⟨o, eo, look⟩ := hf fs rfl
  subst eo
  obtain ⟨u, hu, ru⟩ := look n v hl
  exact HandSPX.exc_get I1.kIn J T.ga T.gg T.sub (findObj_own T.dic hno rfl hu) (handed_of ru) ⟨v, H1, I1.tok _, ru, q⟩
/-- what is tracked at an address may be tracked otherwise, nothing being written -/
theorem retrack {pins : List (Addr × Obj)} {σ : L2.St} {H : Hp} {s : Shared} {x : Addr} {o : HO} (I : Inv X pins σ H s) (mu : Mut (H x)) (there : ∃ u, s.heap.get? x = some u) (new : ObjOk X.prog X.w (upd H x o) s.heap x o) : Inv X pins σ (upd H x o) s :=
  I.write (t' := s.toks) (x := x) (e := x) (h' := s.heap) mu (.inl rfl) (fun b u _ z => z) there new
/-- an expression that gives a new exception with fields, raised -/
theorem pmk_x {e : Expr} {te : TE} (hx : X.ex = []) (he : PE X e te) :
    PMk X e (fun σ H Q => te σ H fun x H1 => ∃ (a C d : Addr) (fs : List (Str × V)), x = .ref a ∧ H1 a = some (exo a C (some d)) ∧ H1 d = some (exd d fs) ∧ d ≠ a ∧ Fr0 X.H_0 a ∧ Raises X (.ref C) ∧ Q (.ref C) (some d) (delH (upd H1 d (.xd fs)) a)) := by
  intro pins s σ H Q I h
  refine wpAny_mono (he.run pins s σ H _ I h) (fun u s1 hu => ?_) fun _ _ x => x
  obtain ⟨v, H1, I1, r1, a, C, d, fs, rfl, ha, hd, da, h0, hr, q⟩ := hu
  cases r1
  obtain ⟨mA, hn, rel⟩ := exd_at I1.hok hd
  have thd : ∃ u, s1.heap.get? d = some u := by
    obtain ⟨o, _, _, e', _⟩ := id hn
    exact ⟨o, e'⟩
  have I2 : Inv X pins σ (upd H1 d (.xd fs)) s1 := retrack I1 (by rw [hd]; exact True.intro) thd ⟨mA, hn, rel⟩
  have ha2 : (upd H1 d (.xd fs)) a = some (exo a C (some d)) := by
    rw [upd_ne (Ne.symm da)]
    exact ha
  obtain ⟨t1, ho⟩ := exo_at I2.hok ha2
  obtain ⟨G, gs, ga, J⟩ := I2.untrack ha2 h0 hx
  exact ⟨a, _, _, { s1 with heap := G }, delH (upd H1 d (.xd fs)) a, .ref C, some d, rfl, J, gs, ga, ho, ⟨rfl, rfl⟩, rfl, rfl, delH_same, rfl, I1.bare, hr, q⟩
end
end Pb

namespace Pb
open PySem PySem.W PyProof.Rows L2
/-- the clause tx of an except: by what an exception's class tells, it matches or not -/
def Clause (X : Cx) (tx : Expr) (CL : Value → Option Bool) : Prop :=
  ∀ (a : Addr) (oe : Obj) (pn pins : List (Addr × Obj)) (σ : L2.St) (H : Hp) (s : Shared) (cls : Value) (b : Bool) (Q : Value → Shared → Prop) (E : Value → Shared → Prop), Inv (X.suite a ((a, oe) :: pn)) pins σ H s →
    Looks (model X.prog X.w) s.heap (typeOf (.ref a)) cls → CL cls = some b →
    (∀ cv h', (∀ c o, s.heap.get? c = some o → h'.get? c = some o) → Looks (model X.prog X.w) h' (excMatches (.ref a) cv) b → Q cv { s with heap := h' }) →
    wpAny (model X.prog X.w) (X.A.mark (some (.ref a))) (eval tx X.env) Q E s
section
variable {X : Cx} {x y : Str} {c c' : Value} {np nq pos : Pos}
theorem cl_one (hc : Names X x c) : Clause X (.Name x np) (fun cls => exmOne X.K cls c) := by
  intro a oe pn pins σ H s cls b Q E S LT e fin
  have q := fin c s.heap (fun _ _ z => z) (exm_one (M := model X.prog X.w) S.kIn LT e)
  obtain ⟨hg, hdbg, hm | ⟨hm, hv, hnn⟩⟩ := hc
  · exact ld_glob (X := X.suite a ((a, oe) :: pn)) S hg hm q hdbg
  · exact ld_blt (X := X.suite a ((a, oe) :: pn)) S hg hm hv q hnn hdbg
theorem cl_two {k1} (hg : Gl X x) (hm : X.mg x = some c) (hg' : Gl X y) (hm' : X.mg y = some c') (hx : (x == ("__debug__" : Str)) = false := by decide) (hy : (y == ("__debug__" : Str)) = false := by decide)
    (hst : starEach [.Name x np, .Name y nq] X.env = [(false, eval (.Name x np) X.env), (false, eval (.Name y nq) X.env)] := by rfl) : Clause X (.Tuple [.Name x np, .Name y nq] k1 pos) (fun cls => exmAny X.K cls [c, c']) := by
  intro a oe pn pins σ H s cls b Q E S LT e fin
  refine wpAny_Tuple_spliced ?_
  rw [hst]
  show wpAny _ _ (spliced ((false, eval (.Name x np) X.env) :: (false, eval (.Name y nq) X.env) :: [])) _ _ _
  refine Calls.spliced_cons (ld_glob (X := X.suite a ((a, oe) :: pn)) S hg hm ?_ hx)
  refine Calls.spliced_cons (ld_glob (X := X.suite a ((a, oe) :: pn)) S hg' hm' ?_ hy)
  refine Calls.spliced_nil ⟨(by show 2 ≤ sizeLine; decide), ?_⟩
  have kp : ∀ d o, s.heap.get? d = some o → (s.heap.push { cls := .type "tuple", data := .seq [c, c'].toArray }).get? d = some o := fun d o z => Heap.get?_push_of_some _ z
  exact fin _ _ kp (exm_tup2 (M := model X.prog X.w) (S.kIn.keeps kp) (LT.keeps kp) (Heap.get?_push_size _ rfl) e)
end
section
variable {X : Cx} {pins : List (Addr × Obj)} {σ : L2.St} {H : Hp} {s : Shared}
/-- an object that is held fast, and wasn't there at the entry, is tracked from now on -/
theorem track {a : Addr} {oe : Obj} {vs : Array Value} {cls : Value} {d : Option Addr} (I : Inv X ((a, oe) :: pins) σ H s) (h0 : X.s_0.heap.get? a = none) (dt : oe.data = .fields vs) (hz : Zc cls d oe) (hp : ∀ p ∈ X.pn ++ pins, p.1 ≠ a) :
    Inv X pins σ (upd H a (exk a cls d)) s := by
  obtain ⟨ga, na, nL, nF, _⟩ := I.pin (a, oe) (List.mem_append_right _ List.mem_cons_self)
  dsimp only at ga na nL nF
  have neS : ∀ {b : Addr} {o : Obj}, X.s_0.heap.get? b = some o → b ≠ a := fun {b o} z e => by
    rw [e, h0] at z
    cases z
  have neH : ∀ {b : Addr} {o : HO}, H b = some o → b ≠ a := fun {b o} z e => by
    rw [e, na] at z
    cases z
  refine { ok := I.ok, os := I.os, bare := I.bare, base := ?_, loc := I.loc, cell := I.cell, free := ?_, freeC := fun x c e => ?_, pin := fun p hq => ?_, hok := fun b o e => ?_, len := I.len }
  · exact { keep := I.base.keep
            slot := I.base.slot
            free := fun b o z n hx => by rw [upd_ne (neS z)]; exact I.base.free b o z n hx
            there := I.base.there
            tups := fun b xs z => by rw [upd_ne (neH (I.base.tups b xs z))]; exact I.base.tups b xs z
            frzs := fun b o u z => by rw [upd_ne (neH (I.base.frzs b o u z))]; exact I.base.frzs b o u z
            tbls := fun b ps z => by
              obtain ⟨more, y⟩ := I.base.tbls b ps z
              exact ⟨more, by rw [upd_ne (neH y)]; exact y⟩ }
  · rw [upd_ne nL.symm]
    exact I.free
  · obtain ⟨v, o, go, dc⟩ := I.cell x c e
    have nc : c ≠ a := fun z => by
      rw [z, ga] at go
      cases go
      rw [dt] at dc
      cases dc
    rw [upd_ne nc]
    exact I.freeC x c e
  · have hq' : p ∈ X.pn ++ (a, oe) :: pins := by
      rcases List.mem_append.mp hq with z | z
      · exact List.mem_append_left _ z
      · exact List.mem_append_right _ (List.mem_cons_of_mem _ z)
    obtain ⟨g1, g2, g3⟩ := I.pin p hq'
    exact ⟨g1, by rw [upd_ne (hp p hq)]; exact g2, g3⟩
  · by_cases hb : b = a
    · subst hb
      rw [upd_same] at e
      cases e
      exact exk_ok ga hz dt
    · rw [upd_ne hb] at e
      exact (I.hok b o e).stay (fun _ _ _ z => z) (fun c z => by rw [upd_ne (neH z)]; exact z) fun c xs z => by rw [upd_ne (neH z)]; exact z
end
/-- what «except tx as n» wishes of an exception: behind the suite it is kept (slot i, n's, is empty) -/
def wG (CL : Value → Option Bool) (i : Nat) (ts : Addr → Value → Option Addr → TS) (Wout : WX) (D : Ends) : WX := fun cls d σ H => ∃ b, CL cls = some b ∧
  (b = true → ∀ a, H a = none → ts a cls d
    { nx := fun σ' H' => H' a = none → D.nx (σ'.set i none) (upd H' a (exk a cls d)), rt := fun v H' => H' a = none → D.rt v (upd H' a (exk a cls d)),
      bk := fun σ' H' => H' a = none → D.bk (σ'.set i none) (upd H' a (exk a cls d)), ct := fun σ' H' => H' a = none → D.ct (σ'.set i none) (upd H' a (exk a cls d)) } (σ.set i (some (.ref a))) H) ∧
  (b = false → Wout cls d σ H)
theorem fly_push {B h h' : Heap} {l : List Env} {e : Addr} {Z : Obj → Prop} (x : HandSPX.FlyingZ B l e Z h) (k : ∀ c o, h.get? c = some o → h'.get? c = some o) : HandSPX.FlyingZ B l e Z h' := by
  obtain ⟨x1, x2, x3, oe, vs, T, oT, ts, y1, y2, y3, y4, y5, y6, y7, y8, y9⟩ := x
  exact ⟨fun b o z => k b o (x1 b o z), x2, x3.of_keeps fun b o z _ => ⟨o, k b o z, rfl⟩, oe, vs, T, oT, ts, k _ _ y1, y2, y3, y4, y5, y6, k _ _ y7, y8, y9⟩
theorem slots_push {h h1 h2 : Heap} (x : h.UpToSlots h1) (k : ∀ c o, h1.get? c = some o → h2.get? c = some o) : h.UpToSlots h2 := fun b o z n => by
  obtain ⟨sl, y⟩ := x b o z n
  exact ⟨sl, k _ _ y⟩
section
variable {X : Cx} {n : Str} {tx : Expr} {CL : Value → Option Bool} {i : Nat} {body suite : List Stmt} {b₀ : Stmt} {pos pos' : Pos} {tb : WX → TS} {ts : Addr → Value → Option Addr → TS} {Wout : WX}
theorem ps_tryG (hs : X.stack = X.env :: X.outer) (hf : X.env.frame = some X.env.locals) (hex : X.ex = []) (hN : X.N.Nodup) (hi : X.N[i]? = some n) (hln : X.env.kindOf n = some .local) (hc : Clause X tx CL) (tk : Takes X Wout)
    (hb : ∀ (W : WX) (pn : List (Addr × Obj)) (xe : Value → Shared → Prop), Takes (X.tr pn xe) W → PassesOwn (model X.prog X.w) X.A X.env xe → PSs (X.tr pn xe) body (tb W))
    (hsu : ∀ (a : Addr) (oe : Obj) (cls : Value) (d : Option Addr) (pn : List (Addr × Obj)), Zc cls d oe → (∃ vs, oe.data = .fields vs) → PSs (X.suite a ((a, oe) :: pn)) (b₀ :: suite) (ts a cls d)) :
    PS X (.Try body [.ExceptHandler (some tx) (some n) (b₀ :: suite) pos'] [] [] pos) (fun D σ H => tb (wG CL i ts Wout D) D σ H) := by
  refine ⟨fun pins s σ H D I hyp => ?_⟩
  have ok := I.ok
  have frm : X.A.frames = some (X.env :: X.outer) := by rw [ok.frames, hs]
  refine wpAny_Try_except ?_
  refine wpAny_mono ((hb (wG CL i ts Wout D) (X.pn ++ pins) (fun e s₁ => wpAny (model X.prog X.w) X.A (noteFrame e X.env) (fun _ s₂ => wpAny (model X.prog X.w) X.A (setFlight e none)
    (fun _ s₃ => wpAny (model X.prog X.w) X.A (handleBy e X.env [.ExceptHandler (some tx) (some n) (b₀ :: suite) pos']) (SP X pins D) X.xe s₃) X.xe s₂) X.xe s₁) (fun u s' xx => ?_) PassesOwn.looking).run [] s σ H D (I.toTry _) hyp) (fun f s1 hsp => ?_) (fun e s1 he => he)
  · obtain ⟨a, B, sI, pins', σ', H', cls, d, eu, J', nb, up, sky, na, os, ag, b, hCL, hyes, hno⟩ := xx
    subst eu
    have J : Inv X pins σ' H' sI := J'.ofTry ok
    have sky2 : Sky B (X.env :: X.outer) a (Zc cls d) X.env.locals s'.heap := by
      rw [← hs]
      exact sky
    show wpAny (model X.prog X.w) X.A (noteFrame (.ref a) X.env) _ _ _
    refine Sky.land Zc.steady frm hf sky2 fun h3 fl3 up3 => ?_
    have J3 : Inv X pins σ' H' { s' with heap := h3 } := J.landed nb fl3.1 (up.trans up3) os ag
    obtain ⟨oe3, vs3, he3, hz3, hd3⟩ := fl3.there
    have nfr : a ∉ frs (X.env :: X.outer) := fun hm => by
      obtain ⟨_, o', e', hnf⟩ := fl3.2.2.1.mem hm
      rw [he3] at e'
      cases e'
      exact hnf _ hd3
    have nL : a ≠ X.env.locals := fun z => nfr (List.mem_filterMap.mpr ⟨X.env, List.mem_cons_self, by rw [hf, z]⟩)
    have nF : a ∉ X.fs := fun hm => by
      obtain ⟨e, he, q⟩ := List.mem_filterMap.mp hm
      exact nfr (List.mem_filterMap.mpr ⟨e, List.mem_cons_of_mem _ he, q⟩)
    have nI : sI.heap.get? a = none := by
      cases q : sI.heap.get? a with
      | none => rfl
      | some o =>
        have z := nb a o q (by rw [hs]; exact nfr)
        rw [fl3.2.1] at z
        cases z
    have n0 : X.s_0.heap.get? a = none := by
      cases q : X.s_0.heap.get? a with
      | none => rfl
      | some o =>
        obtain ⟨o', z⟩ := J.base.there a o q (by rw [hex]; exact fun z => nomatch z)
        rw [nI] at z
        cases z
    have nP : ∀ p ∈ X.pn ++ pins, p.1 ≠ a := fun p hp z => by
      have y := (J.pin p hp).1
      rw [z, nI] at y
      cases y
    have S3 := J3.suite he3 hd3 na nL nF
    refine wpAny_handleBy_cons (codeAny_handlers_test ?_) (by intro q; cases q)
    have LT : Looks (model X.prog X.w) h3 (typeOf (.ref a)) cls := fun A Q E s k q => wpAny_typeOf_ref (k _ _ he3) (by rw [hz3.1]; exact q)
    refine hc a oe3 (X.pn ++ pins) [] σ' H' _ cls b _ _ S3 LT hCL fun cv h5 k5 LM => ?_
    refine LM.here ?_
    have fl5 : HandSPX.FlyingZ B (X.env :: X.outer) a (Zc cls d) h5 := fly_push fl3 k5
    have up5 : sI.heap.UpToSlots h5 := slots_push (up.trans up3) k5
    cases b with
    | true =>
      refine codeAny_handlers_suite_as ?_
      refine HandSPX.lands_againZ fl5 fun h4 fl4 up4 => ?_
      have J4 : Inv X pins σ' H' { s' with heap := h4 } := J.landed nb fl4.1 (up5.trans up4) os ag
      obtain ⟨oe4, vs4, he4, hz4, hd4⟩ := fl4.there
      have S4 := J4.suite he4 hd4 na nL nF
      refine store_ok (X := X.suite a ((a, oe4) :: (X.pn ++ pins))) (v := .ref a) S4 hN hi (.inl hln) rfl (fun s5 S5 => ?_) (.inr hln)
      refine wpAny_mono ((hsu a oe4 cls d (X.pn ++ pins) hz4 ⟨_, hd4⟩).run [] s5 _ H' _ S5 (hyes rfl a na)) (fun f s6 hsp => ?_) (fun _ _ z => False.elim z)
      have fin : ∀ {σ6 : L2.St} {H6 : Hp} {Q : Shared → Prop}, Inv (X.suite a ((a, oe4) :: (X.pn ++ pins))) [] σ6 H6 s6 → (H6 a = none → ∀ s7, Inv X pins (σ6.set i none) (upd H6 a (exk a cls d)) s7 → Q s7) →
          wpAny (model X.prog X.w) X.A (do bindName X.env n .none; unbindBehindTheSuite X.env n pos') (fun _ s7 => Q s7) X.xe s6 := fun {σ6 H6 Q} S6 hq => by
        have J6 : Inv X pins σ6 H6 s6 := S6.unsuite ok
        have pa := S6.pin (a, oe4) (List.mem_append_left _ List.mem_cons_self)
        have J6' : Inv X ((a, oe4) :: pins) σ6 H6 s6 := J6.pins_of fun p hp => by
          rcases List.mem_cons.mp hp with e | z
          · rw [e]
            exact pa
          · exact J6.pin p (List.mem_append_right _ z)
        exact gone_ok J6' hN hi hln fun s7 J7 => hq pa.2.1 s7 (track J7 n0 hd4 hz4 nP)
      cases f with
      | next =>
        obtain ⟨σ6, H6, S6, q6⟩ := hsp
        exact fin S6 fun e s7 J7 => ⟨_, _, J7, q6 e⟩
      | brk =>
        obtain ⟨σ6, H6, S6, q6⟩ := hsp
        exact fin S6 fun e s7 J7 => ⟨_, _, J7, q6 e⟩
      | cont =>
        obtain ⟨σ6, H6, S6, q6⟩ := hsp
        exact fin S6 fun e s7 J7 => ⟨_, _, J7, q6 e⟩
      | ret u =>
        obtain ⟨v6, σ6, H6, S6, r6, q6⟩ := hsp
        exact fin S6 fun e s7 J7 => ⟨_, _, _, J7, r6, q6 e⟩
    | false =>
      show wpAny _ X.A (handleBy (.ref a) X.env []) _ _ _
      refine wpAny_handleBy_nil ?_
      obtain ⟨y1, y2, y3, oe, vs, T, oT, ts', he, hz, hd, h1, hr⟩ := id fl5
      unfold PySem.passOn
      refine wpAny_bind (wpAny_field he hd h1 ?_)
      rw [if_neg (show ¬ ((Value.ref T == Value.none) = true) from by simp)]
      have fin : wpAny (model X.prog X.w) X.A (setFlight (.ref a) X.env.frame) (fun _ s4 => wpAny (model X.prog X.w) X.A (throw (.ref a) : Sem Flow) (SP X pins D) X.xe s4) X.xe { s' with heap := h5 } := by
        rw [hf]
        refine HandSPX.setFlight_upZ fl5 fun h4 hh4 up4 => wpAny_throw (tk _ _ ?_)
        exact ⟨a, B, sI, pins, σ', H', cls, d, rfl, J, nb, up5.trans up4, .inr (.inr (by rw [hs]; exact hh4)), na, os, ag, hno rfl⟩
      first
        | exact wpAny_bind (wpAny_pure (wpAny_bind fin))
        | exact wpAny_bind fin
  · cases f with
    | next =>
      obtain ⟨σ', H', J', q⟩ := hsp
      exact wpAny_execs_nil ⟨σ', H', J'.ofTry ok, q⟩
    | brk =>
      obtain ⟨σ', H', J', q⟩ := hsp
      exact ⟨σ', H', J'.ofTry ok, q⟩
    | cont =>
      obtain ⟨σ', H', J', q⟩ := hsp
      exact ⟨σ', H', J'.ofTry ok, q⟩
    | ret u =>
      obtain ⟨v, σ', H', J', r, q⟩ := hsp
      exact ⟨v, σ', H', J'.ofTry ok, r, q⟩
end
end Pb

/-! ### defs that show things: called where nothing is being shown -/
namespace Pb
open PySem PySem.Spec PyProof.Rows L2
/-- as FnOk, where no repr is under way -/
structure FnG (P : Program) (w : World) (K : PySem.W.Frag) (mg : Str → Option Value) (base : Heap) (CX : CXT) (k : Nat) (f : Addr) (fd : FuncData) (ps : List Str) (sp : Sp) : Prop where
  len : ∀ vs H Q E, sp vs H Q E → vs.length = ps.length
  run : ∀ (A : Around) (outer : List Env) (s : Shared) (H : Hp) (args : Args) (us : List Value) (vs : List V) (Q : VK) (E : XK), A.guards = some [] → Room k A → Env0 P w K mg base A outer s H → BindsTo s fd args (ps.zip us) →
    Vals vs us → sp vs H Q E → codeAny (model P w) A (.call (.ref f) args) (CR CX outer P w H s Q E) s
section
variable {P : Program} {w : World} {K : PySem.W.Frag} {mg : Str → Option Value} {base : Heap} {CX : CXT} {k : Nat} {f : Addr} {ps : List Str} {sp : Sp}
theorem FnG.of {fd : FuncData} (F : FnOk P w K mg base CX k f fd ps sp) : FnG P w K mg base CX k f fd ps sp :=
  ⟨F.len, fun A outer s H args us vs Q E _ => F.run A outer s H args us vs Q E⟩
theorem FnG.mono {fd : FuncData} {j : Nat} (F : FnG P w K mg base CX k f fd ps sp) (h : k ≤ j) : FnG P w K mg base CX j f fd ps sp :=
  ⟨F.len, fun A outer s H args us vs Q E hg hr => F.run A outer s H args us vs Q E hg (hr.mono h)⟩
variable {name qual : Str} {params : Arguments} {body : List Stmt} {scope : Scope} {dvs : List V} {kws : List (Str × V)} {fd : FuncData} {N : List Str}
theorem fnG_of (F : FunD K name qual params body scope dvs kws f fd) (S : FnScope N ps scope) (len : ∀ vs H Q E, sp vs H Q E → vs.length = ps.length)
    (hbody : ∀ (cdv : Value) (A : Around) (outer : List Env) (s : Shared) (H : Hp) (vs : List V) (Q : VK) (E : XK), A.guards = some [] → Room k (A.deeper (envOfC qual scope s.heap.objs.size f cdv)) → sp vs H Q E →
      ∃ t, PSs (cxOf CX P w K mg base N qual scope f cdv A outer s H E) body t ∧ t { nx := fun _ H' => Q .non H', rt := Q } (start N vs) H) : FnG P w K mg base CX (k + 1) f fd ps sp := by
  obtain ⟨oc, od, dV, kV, doc, pm, an, cdv, ct, osl, efd, lk, hcd, _, _⟩ := F.ex
  subst efd
  refine ⟨len, fun A outer s H args us vs Q E hg hr e0 hb r hsp => ?_⟩
  have hl := len _ _ _ _ hsp
  have k1 : K.In s.heap := e0.mod.kin.keeps fun b o e => (e0.bs b o e).1
  have k2 : s.heap.NoLimit := e0.mod.nolimit.keeps fun b o e => (e0.bs b o e).1
  have k3 : ∀ y ∈ ps.zip us, scope.names.lookup y.1 = some .local ∨ (scope.names.lookup y.1 = some .cell ∧ ((cellsFrom (s.heap.objs.size + 1) scope.names []).lookup y.1).isSome = true) := by
    rintro ⟨y, v⟩ hy
    rcases S.par y (List.of_mem_zip hy).1 with z | z
    · exact .inl z
    · exact .inr ⟨z, PySem.W.cellsFrom_some _ _ _ (.inl z)⟩
  refine codeAny_call_function hr.depth (k1 _ _ lk) rfl S.co S.gen rfl (PySem.W.codeRec_of k1 hcd) (hb _ _ _ _ ?_)
  refine wpAny_newFunctionEnv_cells S.kind k3 fun env he s1 x => ?_
  subst he
  refine ⟨k2.keeps x.toInCall.keep, codeAny_func ?_⟩
  obtain ⟨t, ht, hq⟩ := hbody cdv A outer s H vs Q E hg (hr.deeper _) hsp
  have I : Inv (cxOf CX P w K mg base N qual scope f cdv A outer s H E) [] (start N vs) H s1 := inv_start S hr.hd e0 hl r x
  refine wpAny_mono (ht.run [] s1 (start N vs) H _ I hq) (fun fl s' hs => ?_) fun e s' hs => hs
  cases fl with
  | ret u =>
    obtain ⟨v, σ', H', J, rv, q⟩ := hs
    exact ⟨v, H', J.os, J.bare, J.base, J.hok, rv, q⟩
  | next =>
    obtain ⟨σ', H', J, q⟩ := hs
    exact ⟨V.non, H', J.os, J.bare, J.base, J.hok, rfl, q⟩
  | brk =>
    obtain ⟨_, _, _, q⟩ := hs
    exact q.elim
  | cont =>
    obtain ⟨_, _, _, q⟩ := hs
    exact q.elim
end
section
variable {X : Cx} {CX : CXT} {k : Nat} {f : Addr} {fd : FuncData} {ps : List Str} {sp : Sp} {ds : List Value} {dvs : List V} {E : XK} {x : Str} {p pos : Pos} {e : Expr} {es : List Expr} {t : TA}
/-- f(e, ..) of such a def -/
theorem pe_callG (F : FnG X.prog X.w X.K X.mg X.base CX k f fd ps sp) (gd : X.A.guards = some []) (hr : Room k X.A) (hg : Gl X x) (hm : X.mg x = some (.ref f)) (hk : PySem.W.keepIn X.K (.ref f) = true) (hb : Binds X.K fd ps ds) (hd : Vals dvs ds) (hx : Passes CX X E)
    (ha : PA X (e :: es) t) (hdb : (x == ("__debug__" : Str)) = false := by decide) (he : starEach (e :: es) X.env = (false, eval e X.env) :: starEach es X.env := by rfl) (hpl : (backTo pos (starEach es X.env)).any (·.1) = false := by rfl) :
    PE X (.Call (.Name x p) (e :: es) [] pos) (tCall sp dvs E t) := by
  refine ⟨fun pins s σ H Q I hyp => ?_⟩
  refine wpAny_Call_Name_kw (ld_glob I hg hm ?_ hdb)
  refine PySem.W.callWith_K (h₀ := X.base) I.ok.mod.kin hk (thn (ha.run pos pins s σ H _ I hyp) fun us s1 z => ?_) he hpl
  obtain ⟨vs, H1, I1, r, q⟩ := z
  refine ⟨I1.kIn, ?_⟩
  have r2 : Vals (vs ++ dvs) (us ++ ds) := r.append hd
  have hl : (us ++ ds).length = ps.length := by
    rw [← r2.length]
    exact F.len _ _ _ _ q
  refine wpAny_call (codeAny_mono (F.run X.A X.stack s1 H1 ⟨us, []⟩ (us ++ ds) (vs ++ dvs) Q E gd hr I1.env0 (hb s1 us I1.kIn hl) r2 q) fun r s' hq => ?_)
  cases r with
  | error e => exact hx pins σ H1 s1 e s' I1 hq
  | ok fl =>
    cases fl with
    | ret u => exact I1.after hq
    | next => exact False.elim hq
    | brk => exact False.elim hq
    | cont => exact False.elim hq
/-- repr(x) of data at any depth -/
def rRepr (K : PySem.W.Frag) : List V → Hp → VK → Prop := fun xs H Q => ∃ (a : Addr) (d : PyData), xs = [.ref a] ∧ Dp K H (.ref a) d ∧ d.showable = true ∧ d.hasDict = false ∧ d.depth ≤ 60 ∧ d.shown.length ≤ sizeLine ∧ Q (.str d.shown) H
theorem call_repr (gd : X.A.guards = some []) (hr : Room k X.A) : CallR X (.builtin "repr") (rRepr X.K) := by
  intro pins s σ H xs us Q I r hyp
  obtain ⟨a, d, ex, hd, h1, h2, h3, h4, q⟩ := hyp
  subst ex
  cases r with
  | cons rx rn =>
    cases rn
    obtain ⟨as, rd⟩ := Dp.reads I d _ _ hd rx
    cases rx
    have hu := hr.un
    refine repr_of_reads' rd h1 (PyData.noDict_hsm h2) gd (by omega) (fun _ _ z => z) (fun h' u tk kp => ?_) h4
    exact ⟨.str d.shown, H, I.kept (t' := tk) kp, ⟨u, rfl⟩, q⟩
end
end Pb

/-! ### the end: a law whose def shows things -/
namespace Pb
open PySem PySem.Spec PyProof.Rows L2
theorem lawG {P : Program} {w : World} {K : PySem.W.Frag} {mg mb : Str → Option Value} {CX : CXT} {k : Nat} {fa a : Addr} {fd : FuncData} {x : Str} {sp : Sp} {s₁ : Shared} {vs : List Value} {ns : List Int} (KX : K.In s₁.heap) (hns : s₁.heap.Ns mainGlobals mg)
    (hb : s₁.heap.Ns builtinsNs mb) (hbb : ∀ x : Str, x ≠ "__name__" → mb x = bootBuiltins x) (hlim : s₁.heap.NoLimit) (hg : s₁.gens = #[]) (ha : s₁.heap.get? a = some { cls := .type "list", data := .seq vs.toArray }) (hi : IntsAre vs ns) (hl : ns.length ≤ sizeLine)
    (hr : Room k callerA) (F : ∀ base : Heap, K.In base → base.Ns mainGlobals mg → FnG P w K mg base CX k fa fd [x] sp) (hbind : ∀ (s : Shared) (u : Value), BindsTo s fd ⟨[u], []⟩ [(x, u)])
    (hsp : ∀ H : Hp, Only H → SqL K H a (ns.map V.int) → sp [.ref a] H (fun v _ => v = .bl true) fun _ _ _ => False) (hCX : ∀ H e s', CX [] H s₁ (fun _ _ _ => False) e s' → False) :
    codeAny (model P w) callerA (.call (.ref fa) ⟨[.ref a], []⟩) (fun r s' => r = .ok (.ret (.bool true)) ∧ OldK s₁.heap s'.heap ∧ s'.os = s₁.os ∧ AllBare s'.gens) s₁ := by
  have vi := vals_ints hi
  have li := hi.length
  have core : ∀ H : Hp, Only H → SqL K H a (ns.map V.int) → HOk P w H s₁.heap → (∀ b, H b ≠ none → b = a) → (H a ≠ none → K.lookup a = none) →
      codeAny (model P w) callerA (.call (.ref fa) ⟨[.ref a], []⟩) (fun r s' => r = .ok (.ret (.bool true)) ∧ OldK s₁.heap s'.heap ∧ s'.os = s₁.os ∧ AllBare s'.gens) s₁ := fun H hO hS hok hA hK => by
    have free : ∀ {b : Addr}, b ≠ a → H b = none := fun {b} nb => by
      cases q : H b with
      | none => rfl
      | some u => exact absurd (hA b (by rw [q]; simp)) nb
    have noA : ∀ {b : Addr} {o : Obj} {es : Array DictEntry} {ep : Nat}, s₁.heap.get? b = some o → o.data = .dict es ep → H b = none := fun {b o es ep} e d => free fun z => by
      rw [z, ha] at e
      cases e
      cases d
    have nsK : ∀ {b : Addr} {m : Str → Option Value}, s₁.heap.Ns b m → (hidT s₁.heap H).Ns b m := fun {b m} z => by
      obtain ⟨o, es, ep, e, d, r⟩ := z
      exact ⟨o, es, ep, hidT_get e (noA e d), d, r⟩
    have kb : K.In (hidT s₁.heap H) := fun b o e => hidT_get (KX b o e) (by
      cases q : H b with
      | none => rfl
      | some u =>
        have z := hA b (by rw [q]; simp)
        rw [z] at e q
        rw [hK (by rw [q]; simp)] at e
        cases e)
    have mo : Mod K mg (hidT s₁.heap H) := by
      obtain ⟨mc, l1, l2⟩ := hlim
      exact ⟨kb, nsK hns, ⟨mb, nsK hb, hbb⟩, ⟨mc, nsK l1, l2⟩⟩
    have e0 : Env0 P w K mg (hidT s₁.heap H) callerA [] s₁ H :=
      ⟨rfl, mo, fun b o e => of_hidT e, Nat.le_of_eq (hidT_size _ _), trivial, (fun b z => nomatch (show b ∈ ([] : List Addr) from z)), hok, .of_eq hg⟩
    refine codeAny_mono ((F _ kb (nsK hns)).run callerA [] s₁ H ⟨[.ref a], []⟩ [.ref a] [.ref a] _ _ rfl hr e0 (hbind s₁ (.ref a)) (.cons rfl .nil) (hsp H hO hS)) fun r s' z => ?_
    cases r with
    | error e => exact (hCX H e s' z).elim
    | ok fl =>
      cases fl with
      | next => exact z.elim
      | brk => exact z.elim
      | cont => exact z.elim
      | ret u =>
        obtain ⟨v, H', os, bare, un, hok', rv, q⟩ := z
        cases (show v = .bl true from q)
        cases (show u = Value.bool true from rv)
        refine ⟨rfl, OldK.of_keep fun b o e => ?_, os, bare⟩
        rcases hO b with y | ⟨ob, xs, y⟩
        · exact un.keep b o e y (fun z => nomatch (show b ∈ ([] : List Addr) from z)) (fun z => nomatch z)
        · obtain ⟨e1, _⟩ := hok b _ y
          obtain ⟨e2, _⟩ := hok' b _ (un.frzs b ob _ y)
          rw [e] at e1
          cases e1
          exact e2
  cases hk : K.lookup a with
  | some o =>
    have e := KX a o hk
    rw [ha] at e
    cases e
    refine core (fun _ => none) (fun _ => .inl rfl) (.inr ⟨_, vs.toArray, _, hk, rfl, rfl, rfl, ?_, by simpa using vi⟩) (fun b u z => by cases z) (fun b z => absurd rfl z) fun z => absurd rfl z
    rw [List.size_toArray, li]
    exact hl
  | none =>
    have y : upd (fun _ => none) a (.frz { cls := .type "list", data := .seq vs.toArray } (.lst (ns.map V.int))) a = some (.frz { cls := .type "list", data := .seq vs.toArray } (.lst (ns.map V.int))) := upd_same
    refine core (upd (fun _ => none) a (.frz { cls := .type "list", data := .seq vs.toArray } (.lst (ns.map V.int)))) (fun b => ?_) (.inl (.inr ⟨_, y⟩)) (fun b u z => ?_) (fun b z => ?_) fun _ => hk
    · by_cases e : b = a
      · rw [e]
        exact .inr ⟨_, _, y⟩
      · exact .inl (upd_ne e)
    · by_cases e : b = a
      · rw [e, y] at z
        cases z
        rw [e]
        exact ⟨ha, by rw [List.length_map]; exact hl, vs, _, vi, ha⟩
      · rw [upd_ne e] at z
        cases z
    · by_cases e : b = a
      · exact e
      · exact absurd (upd_ne e) z
theorem walkG {l : PySem.W.OpenLaw} {n k : Nat} {q : Program} {loose : List Str} {XP : (Str → Option Value) → Heap → Prop} {YP : World → Heap → Prop} {d : DefRec} {CX : CXT} {x : Str} (hn : l.most = some n) (hn2 : n ≤ sizeLine) (hdf : d.params.defaults = []) (hr : Room k callerA)
    (F : ∀ (w : World) (mg : Str → Option Value) (fa : Addr) (h : Heap), YP w h → h.Ns mainGlobals mg → mg d.name = some (.ref fa) →
      ∃ (K : PySem.W.Frag) (fd : FuncData) (sp : Sp), K.In h ∧ (∀ (s : Shared) (u : Value), BindsTo s fd ⟨[u], []⟩ [(x, u)]) ∧ (∀ (H : Hp) (a : Addr) (ns : List Int), ns.length ≤ n → Only H → SqL K H a (ns.map V.int) → sp [.ref a] H (fun v _ => v = .bl true) fun _ _ _ => False) ∧
        ∀ base : Heap, K.In base → base.Ns mainGlobals mg → FnG l.prog w K mg base CX k fa fd [x] sp)
    (hCX : ∀ (H : Hp) (s : Shared) (e : Value) (s' : Shared), CX [] H s (fun _ _ _ => False) e s' → False) : PySem.W.WalkO q loose XP YP l.row.toRowW d [] (fun f vs => PySem.call f vs) := by
  refine Att.attach_call hn hdf fun w s₀ s₁ mg mb fa o pm cd doc a vs ns G Y ho hd hcd hmg hobj hints hlen hg => ?_
  obtain ⟨K, fd, sp, KX, bb, hs, hF⟩ := F w mg fa _ Y G.T.g hmg
  exact lawG KX G.T.g G.T.b G.T.builtins G.T.nolimit hg hobj hints (Nat.le_trans hlen hn2) hr hF bb (fun H hO hS => hs H a ns hlen hO hS) fun H e s' => hCX H s₁ e s'
/-! ### the head's facts: any checks of the written part, and the defs -/
def obsX (cks : List (PySem.W.Frag → Bool)) (fn : List He.DefD) (K : PySem.W.Frag) : He.AlD := ((cks.all fun c => c K) && fn.all fun d => d.ok K, fn.map fun d => He.fnW K d.at_)
def SaysX (cks : List (PySem.W.Frag → Bool)) (fn : List He.DefD) (K : PySem.W.Frag) : Prop := obsX cks fn K = He.valD fn
def obsXG (n : Nat) (cks : List (PySem.W.Frag → Bool)) (fn : List He.DefD) (g : Addr → Option Obj) : He.AlD := obsX cks fn (He.frG g (He.asD g n))
def hookX (n : Nat) (cks : List (PySem.W.Frag → Bool)) (fn : List He.DefD) : PySem.W.Hook where
  α := He.AlD
  obs := fun s => obsXG n cks fn s.heap.get?
  val := fun _ => He.valD fn
  says := fun _ h => ∃ K : PySem.W.Frag, K.In h ∧ SaysX cks fn K
  of := fun _ _ e => ⟨_, He.frG_in, e⟩
  keeps := fun _ _ _ ⟨K, hK, c⟩ k => ⟨K, PySem.W.Frag.In.keeps hK k, c⟩
theorem obsXG_eq {n : Nat} {cks : List (PySem.W.Frag → Bool)} {fn : List He.DefD} {g : Addr → Option Obj} {s : Shared} (h : ∀ a, g a = s.heap.get? a) : obsXG n cks fn g = (hookX n cks fn).obs s := by
  have e : g = s.heap.get? := funext h
  rw [e]
  rfl
section
variable {cks : List (PySem.W.Frag → Bool)} {fn : List He.DefD} {K : PySem.W.Frag}
theorem SaysX.all (c : SaysX cks fn K) : (cks.all fun c => c K) = true := (He.ba (show ((cks.all fun c => c K) && fn.all fun d => d.ok K) = true from congrArg (fun z : He.AlD => z.1) c)).1
theorem SaysX.fact (c : SaysX cks fn K) (i : Nat) {f : PySem.W.Frag → Bool} (h : cks[i]? = some f := by rfl) : f K = true := List.all_eq_true.mp c.all f (List.mem_of_getElem? h)
theorem SaysX.def_ (c : SaysX cks fn K) (i : Nat) {d : He.DefD} (h : fn[i]? = some d := by rfl) : ∃ fd, FunD K d.name d.qual d.params d.body d.scope (d.dvs K) (d.kws K) (He.fAd K d.at_) fd := by
  have c2 := (He.ba (show ((cks.all fun c => c K) && fn.all fun d => d.ok K) = true from congrArg (fun z : He.AlD => z.1) c)).2
  have e : fn.map (fun d => He.fnW K d.at_) = fn.map He.DefD.val := congrArg (fun z : He.AlD => z.2) c
  have e2 : (fn.map fun d => He.fnW K d.at_)[i]? = (fn.map He.DefD.val)[i]? := by rw [e]
  rw [List.getElem?_map, List.getElem?_map, h] at e2
  exact He.DefD.funD (Option.some.inj e2) (List.all_eq_true.mp c2 d (List.mem_of_getElem? h))
end
def gloB (x : Str) (K : PySem.W.Frag) : Bool := (He.Fa.glo x).ok K
def freeB (x : Str) (K : PySem.W.Frag) : Bool := (He.Fa.free x).ok K
end Pb

/-! ### data that can be shown: of small numbers and texts, few things -/
namespace Pb
open PySem PySem.Spec PyProof.Rows L2
structure Sm (n k : Nat) (d : PyData) : Prop where
  sh : d.showable = true
  ls : d.leavesShort 13 = true
  nd : d.hasDict = false
  dp : d.depth ≤ k
  bk : d.bulk ≤ n
structure SmA (n k : Nat) (ds : List PyData) : Prop where
  sh : PyData.showableAll ds = true
  ls : PyData.leavesShortAll 13 ds = true
  nd : PyData.hasDictAll ds = false
  dp : PyData.depthAll ds ≤ k
  bk : PyData.bulkAll ds ≤ n
theorem Sm.fits {n k : Nat} {d : PyData} (h : Sm n k d) (hn : n ≤ 1048576) : d.shown.length ≤ sizeLine := PyData.shown_fits_bulk (B := 13) (by decide) (by decide) h.ls (Nat.le_trans h.bk hn)
theorem Sm.int {i : Int} (h : i.natAbs < 10 ^ 12) : Sm 0 0 (.int i) where
  sh := decide_eq_true (by
    by_cases e : i.natAbs = 0
    · rw [e]
      decide
    · have z : i.natAbs < 2 ^ 1920 := Nat.lt_trans h (by decide)
      exact (Nat.log2_lt e).mpr z)
  ls := decide_eq_true (PyData.shown_int_le h)
  nd := rfl
  dp := Nat.le_refl _
  bk := Nat.le_refl _
theorem SmA.nil : SmA 0 0 [] := ⟨rfl, rfl, rfl, Nat.le_refl _, Nat.le_refl _⟩
theorem SmA.cons {n m k j : Nat} {d : PyData} {ds : List PyData} (h : Sm n k d) (t : SmA m j ds) : SmA (n + 1 + m) (max k j) (d :: ds) where
  sh := by
    show (d.showable && PyData.showableAll ds) = true
    rw [h.sh, t.sh]
    rfl
  ls := by
    show (d.leavesShort 13 && PyData.leavesShortAll 13 ds) = true
    rw [h.ls, t.ls]
    rfl
  nd := by
    show (d.hasDict || PyData.hasDictAll ds) = false
    rw [h.nd, t.nd]
    rfl
  dp := by
    show max d.depth (PyData.depthAll ds) ≤ max k j
    have := h.dp
    have := t.dp
    omega
  bk := by
    show d.bulk + 1 + PyData.bulkAll ds ≤ n + 1 + m
    have := h.bk
    have := t.bk
    omega
theorem Sm.tup {n k : Nat} {ds : List PyData} (h : SmA n k ds) : Sm n (k + 1) (.tuple ds) := ⟨h.sh, h.ls, h.nd, Nat.succ_le_succ h.dp, h.bk⟩
theorem Sm.lst {n k : Nat} {ds : List PyData} (h : SmA n k ds) : Sm n (k + 1) (.list ds) := ⟨h.sh, h.ls, h.nd, Nat.succ_le_succ h.dp, h.bk⟩
theorem Sm.str {x : Str} {n : Nat} (h : (x.cps.toList.all fun c => decide (c < 16 ^ 8)) = true) (hn : x.cps.size ≤ n) : Sm n 0 (.str x) := ⟨rfl, h, rfl, Nat.le_refl _, hn⟩
end Pb

namespace Pb
open PySem PySem.Spec PyProof.Rows L2
/-- for i, x in enumerate(xs), by a word between the turns -/
theorem for_enumL {K : PySem.W.Frag} {a : Addr} {xs : List V} {g : TG} {tb : TS} {D : Ends} {σ : L2.St} {H : Hp} (Pv : Nat → L2.St → Hp → Prop) (start : Pv 0 σ H) (stays : ∀ i σ H, i ≤ xs.length → Pv i σ H → SqL K H a xs)
    (turn : ∀ i x T σ H, xs[i]? = some x → H T = none → Pv i σ H → g (.ref T) σ (upd H T (.tup [.int (i : Nat), x])) fun σ2 H2 => tb { D with nx := Pv (i + 1), ct := Pv (i + 1), bk := D.nx } σ2 H2) (behind : ∀ σ H, Pv xs.length σ H → D.nx σ H) :
    ∃ W : Nat → Nat → L2.St → Hp → Prop, (∃ m, W 0 m σ H) ∧ ∀ i m σ H, W i m σ H → ((Ite K a).stop i H ∧ D.nx σ H) ∨ ((Ite K a).go i H ∧ ∃ N : L2.St → Hp → Prop, (∀ σ' H', N σ' H' → ∃ m', m' < m ∧ W (i + 1) m' σ' H') ∧
      ∀ x H', (Ite K a).yld i H x H' → g x σ H' fun σ2 H2 => tb { D with nx := N, ct := N, bk := D.nx } σ2 H2) := by
  refine ⟨fun i m σ H => m = xs.length - i ∧ i ≤ xs.length ∧ Pv i σ H, ⟨xs.length, by simp, Nat.zero_le _, start⟩, fun i m σ H hw => ?_⟩
  obtain ⟨em, hi, p⟩ := hw
  have hq := stays i σ H hi p
  by_cases lt : i < xs.length
  · refine .inr ⟨⟨xs, xs[i], hq, by simp [lt]⟩, Pv (i + 1), fun σ' H' p' => ⟨xs.length - (i + 1), by omega, rfl, lt, p'⟩, fun v H' y => ?_⟩
    obtain ⟨T, x, ev, nT, eH, hx⟩ := y
    subst ev eH
    exact turn i x T σ H (hx xs hq) nT p
  · have e : i = xs.length := by omega
    subst e
    exact .inl ⟨⟨xs, hq, Nat.le_refl _⟩, behind σ H p⟩
end Pb

namespace Pb
open PySem PySem.Spec PyProof.Rows L2
theorem ExI.same {H H' : Hp} {a D : Addr} {fs : Option (List (Str × V))} (h : ExI H a D fs) (s : Same H H') : ExI H' a D fs := by
  cases fs with
  | none =>
    rcases h with h | h
    · exact .inl (s _ _ h)
    · exact .inr (s _ _ h)
  | some l =>
    obtain ⟨dx, ⟨x, y⟩ | ⟨x, y⟩⟩ := h
    · exact ⟨dx, .inl ⟨s _ _ x, s _ _ y⟩⟩
    · exact ⟨dx, .inr ⟨s _ _ x, s _ _ y⟩⟩
theorem Same.seqT {K : PySem.W.Frag} {H H' : Hp} {a : Addr} {xs : List V} (e : Same H H') (h : SqT K H a xs) : SqT K H' a xs := by
  rcases h with (h | ⟨o, h⟩) | h
  · exact .inl (.inl (e _ _ h))
  · exact .inl (.inr ⟨o, e _ _ h⟩)
  · exact .inr h
mutual
theorem Dp.same {K : PySem.W.Frag} {H H' : Hp} (s : Same H H') : ∀ {v : V} {d : PyData}, Dp K H v d → Dp K H' v d
  | _, _, .non => .non
  | _, _, .bl b => .bl b
  | _, _, .int i => .int i
  | _, _, .str x => .str x
  | _, _, .lst h t => .lst (s.seq h) (DpAll.same s t)
  | _, _, .tup h t => .tup (Same.seqT s h) (DpAll.same s t)
theorem DpAll.same {K : PySem.W.Frag} {H H' : Hp} (s : Same H H') : ∀ {v : List V} {d : List PyData}, DpAll K H v d → DpAll K H' v d
  | _, _, .nil => .nil
  | _, _, .cons a b => .cons (Dp.same s a) (DpAll.same s b)
end
theorem DpAll.app {K : PySem.W.Frag} {H : Hp} : ∀ {v u : List V} {d e : List PyData}, DpAll K H v d → DpAll K H u e → DpAll K H (v ++ u) (d ++ e)
  | _, _, _, _, .nil, h => h
  | _, _, _, _, .cons a b, h => .cons a (DpAll.app b h)
theorem DpAll.len {K : PySem.W.Frag} {H : Hp} : ∀ {v : List V} {d : List PyData}, DpAll K H v d → v.length = d.length
  | _, _, .nil => rfl
  | _, _, .cons _ b => congrArg Nat.succ (DpAll.len b)
theorem nxo {H : Hp} {a : Addr} {o : HO} (na : H a = none) : Same H (upd H a o) ∧ (upd H a o) a = some o := ⟨same_upd na, upd_same⟩
theorem lk1 (n : Str) (v : V) : ([(n, v)] : List (Str × V)).lookup n = some v := by simp [List.lookup]
/-- what was tracked stays, but what is told at d -/
def But (d : Addr) (H H' : Hp) : Prop := ∀ b, b ≠ d → H' b = H b
end Pb

namespace Pb
open PySem PySem.Spec PyProof.Rows L2
def top (i : Nat) : Stmt := PySem.Challenge.pw_pathbook_k01_names_numbers_days_and_rows.main.body.getD i (.Pass ⟨0, 0, 0, 0⟩)
abbrev FnP (K : PySem.W.Frag) (x : Str) (st : Stmt) (f : Addr) (fd : FuncData) : Prop := FunD K x x (defArgs st) (defBody st) (defScope st) [] [] f fd
/-! ### what is drawn -/
def drV (c : Addr) (n l u : Int) : List (Key × V) := [(.inr "cells", .ref c), (.inr "at", .int n), (.inr "left", .int l), (.inr "used", .int u)]
/-- a draw at d, of which at most n were drawn -/
def Dr (H : Hp) (d : Addr) (n : Nat) : Prop := ∃ (c : Addr) (a l u : Int) (cells : List Int), H d = some (.dK (drV c a l u)) ∧ H c = some (.lst (cells.map V.int)) ∧
  cells ≠ [] ∧ cells.length ≤ 100 ∧ 0 ≤ a ∧ a ≤ n ∧ 0 ≤ u ∧ u ≤ n
abbrev sBegin : Stmt := top 25
abbrev sMixed : Stmt := top 26
abbrev sNext : Stmt := top 27
theorem scBegin : FnScope ["_law_script"] ["_law_script"] (defScope sBegin) := ⟨rfl, rfl, rfl, by decide +kernel, rfl, by decide +kernel, by decide +kernel⟩
theorem scMixed : FnScope ["_law_cell", "_law_k", "_law_number"] ["_law_cell", "_law_k"] (defScope sMixed) := ⟨rfl, rfl, rfl, by decide +kernel, rfl, by decide +kernel, by decide +kernel⟩
theorem scNext : FnScope ["_law_draw", "_law_many", "_law_found", "_law_cells", "_law_cell"] ["_law_draw", "_law_many"] (defScope sNext) := ⟨rfl, rfl, rfl, by decide +kernel, rfl, by decide +kernel, by decide +kernel⟩
def spBegin (K : PySem.W.Frag) : Sp := fun vs H Q _ => ∃ (a : Addr) (ns : List Int), vs = [.ref a] ∧ SqL K H a (ns.map V.int) ∧ ns.length ≤ 63 ∧
  ∀ H' d c, H c = none → H d = none → Dr H' d 0 → (∀ b, b ≠ c → b ≠ d → H b ≠ none → H' b = H b) → Q (.ref d) H'
def spMixed : Sp := fun vs H Q _ => ∃ c k : Int, vs = [.int c, .int k] ∧ 0 ≤ k ∧ k ≤ 2 ^ 40 ∧ ∀ v : Int, Q (.int v) H
def spNext : Sp := fun vs H Q _ => ∃ (d : Addr) (m : Int) (n : Nat), vs = [.ref d, .int m] ∧ Dr H d n ∧ 0 < m ∧ m < 1073741824 ∧ n < 2 ^ 40 ∧
  ∀ (v : Int) (H' : Hp), 0 ≤ v → v < m → Dr H' d (n + 1) → But d H H' → Q (.int v) H'
section
variable {P : Program} {w : World} {K : PySem.W.Frag} {mg : Str → Option Value} {base : Heap} {f : Addr} {fd : FuncData}
theorem ok_mixed (F : FnP K "_law_mixed" sMixed f fd) : FnOk P w K mg base CX0 1 f fd ["_law_cell", "_law_k"] spMixed := by
  refine F.ok scMixed (fun vs H Q E h => ?_) (fun cdv A outer s H vs Q E hr h => ?_)
  · obtain ⟨c, k, rfl, _⟩ := h
    rfl
  · obtain ⟨c, k, rfl, h0, h1, q⟩ := h
    refine ⟨_, PSs.nox (pss_cons (ps_set (i := 2) scMixed.nd rfl (.inl rfl) (pe_op op_mod (pe_op op_add (pe_op op_add (pe_op op_add (pe_op op_mod (pv 0) pe_int)
        (pe_op op_mul (pe_op op_mul pe_int (pv 1)) (pv 1))) (pe_op op_mul pe_int (pv 1))) pe_int) pe_int))
      (pss_cons (ps_set (i := 2) scMixed.nd rfl (.inl rfl) (pe_op op_mod (pe_op op_mul (pe_op op_mod (pe_op op_mul (pv 2) (pv 2)) pe_int) (pv 2)) pe_int))
      (pss_one (ps_ret (pe_op op_fdiv (pe_op op_mod (pe_op op_mul (pv 2) (pe_op op_add pe_int (pe_op op_mul pe_int (pe_op op_mod (pv 1) pe_int)))) pe_int) pe_int))))), ?_⟩
    refine ⟨_, rfl, _, _, rfl, rfl, dv _, _, rfl, _, _, rfl, rfl, .inl ⟨by decide, by decide⟩, _, rfl, _, _, rfl, rfl, .inr ⟨by omega, by omega⟩, _, _, rfl, rfl, ?_⟩
    refine ⟨_, rfl, _, _, rfl, rfl, .inl ⟨by decide, by decide⟩, _, _, rfl, rfl, _, _, rfl, rfl, _, _, rfl, rfl, dv _, ?_⟩
    generalize (c % 1000000007 + 7919 * k * k + 31 * k + 7) = z
    have z0 : 0 ≤ z % 2147483647 := Int.emod_nonneg _ (by decide)
    have z1 : z % 2147483647 < 2147483647 := Int.emod_lt_of_pos _ (by decide)
    generalize z % 2147483647 = y at z0 z1
    refine ⟨_, rfl, _, rfl, _, _, rfl, rfl, .inl ⟨by omega, by omega⟩, _, _, rfl, rfl, dv _, _, rfl, _, _, rfl, rfl, .inr ⟨by omega, by omega⟩, _, _, rfl, rfl, dv _, ?_⟩
    generalize y * y % 2147483647 * y = x
    have x0 : 0 ≤ x % 2147483629 := Int.emod_nonneg _ (by decide)
    have x1 : x % 2147483629 < 2147483629 := Int.emod_lt_of_pos _ (by decide)
    generalize x % 2147483629 = u at x0 x1
    refine ⟨_, rfl, _, rfl, _, _, rfl, rfl, dv _, _, _, rfl, rfl, .inl ⟨by decide, by decide⟩, _, _, rfl, rfl, _, _, rfl, rfl, .inl ⟨by omega, by omega⟩, _, _, rfl, rfl, dv _, _, _, rfl, rfl, ⟨by decide, by decide⟩, ?_⟩
    exact q _

theorem dr_cells (c : Addr) (a l u : Int) : valV (drV c a l u) (.inr "cells") = some (.ref c) := by rfl
theorem dr_at (c : Addr) (a l u : Int) : valV (drV c a l u) (.inr "at") = some (.int a) := by rfl
theorem dr_left (c : Addr) (a l u : Int) : valV (drV c a l u) (.inr "left") = some (.int l) := by rfl
theorem dr_used (c : Addr) (a l u : Int) : valV (drV c a l u) (.inr "used") = some (.int u) := by rfl
theorem dp_at (c : Addr) (a l u z : Int) : putK (drV c a l u) (.inr "at") (.int z) = drV c z l u := by rfl
theorem dp_left (c : Addr) (a l u z : Int) : putK (drV c a l u) (.inr "left") (.int z) = drV c a z u := by rfl
theorem dp_used (c : Addr) (a l u z : Int) : putK (drV c a l u) (.inr "used") (.int z) = drV c a l z := by rfl
theorem dr_len (c : Addr) (a l u : Int) : (drV c a l u).length < sizeLine := by
  show 4 < sizeLine
  decide

theorem ok_next {fM : Addr} {fdM : FuncData} (F : FnP K "_law_next" sNext f fd) (FM : FnP K "_law_mixed" sMixed fM fdM) (gM : mg "_law_mixed" = some (.ref fM)) (gl : mg "len" = none) :
    FnOk P w K mg base CX0 2 f fd ["_law_draw", "_law_many"] spNext := by
  have GM : FnOk P w K mg base CX0 1 fM fdM ["_law_cell", "_law_k"] spMixed := ok_mixed FM
  have bM : Binds K fdM ["_law_cell", "_law_k"] [] := FM.bindsN fun _ _ _ _ _ _ us hl => match us, hl with | [_, _], _ => rfl
  refine F.ok scNext (fun vs H Q E h => ?_) (fun cdv A outer s H vs Q E hr h => ?_)
  · obtain ⟨d, m, n, rfl, _⟩ := h
    rfl
  · obtain ⟨d, m, n, rfl, ⟨c, a, l, u, cells, hd, hc, hne, hlen, a0, a1, u0, u1⟩, m0, m1, hn, q⟩ := h
    have hu := hu_of hr
    refine ⟨_, PSs.nox (pss_cons (ps_if (pt_cmpR op_gt (pe_dget hu (pv 0) pe_str (fun _ _ => rfl)) pe_int (nomark _))
        (pss_cons (ps_set (i := 2) scNext.nd rfl (.inl rfl) (pe_op op_mod (pe_dget hu (pv 0) pe_str (fun _ _ => rfl)) (pv 1)))
          (pss_cons (ps_dput hu (pv 0) pe_str (pe_op op_fdiv (pe_dget hu (pv 0) pe_str (fun _ _ => rfl)) (pv 1)) rfl) (pss_one (ps_ret (pv 2))))) pss_nil)
      (pss_cons (ps_set (i := 3) scNext.nd rfl (.inl rfl) (pe_dget hu (pv 0) pe_str (fun _ _ => rfl)))
      (pss_cons (ps_set (i := 4) scNext.nd rfl (.inl rfl) (pe_ix ix_list (pv 3) (pe_op op_mod (pe_dget hu (pv 0) pe_str (fun _ _ => rfl)) (pe_callB call_len_seq (by rfl) gl PySem.boot_len (pa_cons (pv 3) pa_nil))) (fun _ _ => rfl)))
      (pss_cons (ps_dput hu (pv 0) pe_str (pe_op op_add (pe_dget hu (pv 0) pe_str (fun _ _ => rfl)) pe_int) rfl)
      (pss_cons (ps_if (pw_and (pt_cmpR op_ge (pv 4) (pe_op op_pow pe_int pe_int) (nomark _)) (pw_and1 (pt_cmpR op_le (pe_dget hu (pv 0) pe_str (fun _ _ => rfl)) (pe_callB call_len_seq (by rfl) gl PySem.boot_len (pa_cons (pv 3) pa_nil)) (nomark _)))).pt
        (pss_cons (ps_dput hu (pv 0) pe_str (pe_op op_fdiv (pv 4) (pv 1)) rfl) (pss_one (ps_ret (pe_op op_mod (pv 4) (pv 1))))) pss_nil)
      (pss_cons (ps_dput hu (pv 0) pe_str (pe_op op_add (pe_dget hu (pv 0) pe_str (fun _ _ => rfl)) pe_int) rfl)
      (pss_one (ps_ret (pe_op op_mod (pe_call GM hr rfl gM FM.kp bM .nil pass0 (pa_cons (pe_call GM hr rfl gM FM.kp bM .nil pass0 (pa_cons (pv 4) (pa_cons (pe_dget hu (pv 0) pe_str (fun _ _ => rfl)) pa_nil))) (pa_cons (pe_dget hu (pv 0) pe_str (fun _ _ => rfl)) pa_nil))) (pv 1)))))))))), ?_⟩
    refine ⟨_, rfl, d, .int l, rfl, DGet.k (k := .inr "left") hd, _, _, rfl, rfl, _, rfl, ite2 (fun hl => ?_) (fun hl => ?_)⟩
    · refine ⟨_, rfl, d, .int l, rfl, DGet.k (k := .inr "left") hd, _, rfl, _, _, rfl, rfl, dv _ m0, ?_⟩
      refine ⟨_, rfl, d, .int l, rfl, DGet.k (k := .inr "left") hd, _, rfl, _, _, rfl, rfl, ⟨m0, m1⟩, _, rfl, d, _, rfl, DPut.k (k := .inr "left") hd (dr_len ..), ?_⟩
      refine ⟨_, rfl, q _ _ (Int.emod_nonneg _ (by omega)) (Int.emod_lt_of_pos _ m0) ⟨c, a, l / m, u, cells, ?_, ?_, hne, hlen, a0, by omega, u0, by omega⟩ fun b hb => upd_ne hb⟩
      · rw [upd_same, dp_left]
      · rw [upd_ne (ne_of hc hd (by intro z; cases z))]
        exact hc
    · have hcl : SqL K H c (cells.map V.int) := .of hc
      have hpos : 0 < cells.length := List.length_pos_iff.mpr hne
      have e0 : 0 ≤ a % (cells.length : Int) := Int.emod_nonneg _ (by omega)
      have e1 : a % (cells.length : Int) < cells.length := Int.emod_lt_of_pos _ (by omega)
      obtain ⟨j, ej⟩ : ∃ j : Nat, a % (cells.length : Int) = (j : Int) := ⟨_, (Int.toNat_of_nonneg e0).symm⟩
      have hj : j < cells.length := by omega
      have gj : atI (cells.map V.int) (a % ((cells.map V.int).length : Int)) = some (.int cells[j]) := by
        rw [List.length_map, ej]
        exact atI_nat (by rw [List.getElem?_map, List.getElem?_eq_getElem hj]; rfl)
      refine ⟨_, rfl, d, .ref c, rfl, DGet.k (k := .inr "cells") hd, ?_⟩
      refine ⟨_, rfl, _, rfl, d, .int a, rfl, DGet.k (k := .inr "at") hd, _, rfl, c, _, rfl, .inl hcl, _, _, rfl, rfl, dv _ (by rw [List.length_map]; omega), c, _, _, _, rfl, rfl, hcl, gj, ?_⟩
      generalize cells[j] = cell
      have h1d : (upd H d (.dK (drV c (a + 1) l u))) d = some (.dK (drV c (a + 1) l u)) := upd_same
      have h1c : (upd H d (.dK (drV c (a + 1) l u))) c = some (.lst (cells.map V.int)) := by
        rw [upd_ne (ne_of hc hd (by intro z; cases z))]
        exact hc
      refine ⟨_, rfl, d, .int a, rfl, DGet.k (k := .inr "at") hd, _, _, rfl, rfl, _, rfl, d, _, rfl, DPut.k (k := .inr "at") hd (dr_len ..), ?_⟩
      rw [dp_at]
      generalize hH : upd H d (.dK (drV c (a + 1) l u)) = H1 at h1d h1c
      have b1 : But d H H1 := fun b hb => by
        rw [← hH]
        exact upd_ne hb
      refine ⟨_, rfl, _, _, rfl, rfl, ⟨by decide, by decide, by decide⟩, _, _, rfl, rfl, _, rfl, ?_⟩
      have rest : ∀ D : Ends, D.rt = Q → (tSeq (sDPut (tVar 0) (tC (.str "used")) (tOp (rI0 fun i j => .int (i + j)) (tDGet (tVar 0) (tC (.str "used"))) (tC (.int 1))))
          (tRet (tOp (rI (fun _ j => 0 < j) fun i j => .int (i % j)) (tCall spMixed [] E0 (tCons (tCall spMixed [] E0 (tCons (tVar 4) (tCons (tDGet (tVar 0) (tC (.str "at"))) tNil))) (tCons (tDGet (tVar 0) (tC (.str "used"))) tNil))) (tVar 1)))) D
          [some (.ref d), some (.int m), none, some (.ref c), some (.int cell)] H1 := fun D eD => by
        refine ⟨_, rfl, d, .int u, rfl, DGet.k (k := .inr "used") h1d, _, _, rfl, rfl, _, rfl, d, _, rfl, DPut.k (k := .inr "used") h1d (dr_len ..), ?_⟩
        rw [dp_used]
        have h2d : (upd H1 d (.dK (drV c (a + 1) l (u + 1)))) d = some (.dK (drV c (a + 1) l (u + 1))) := upd_same
        refine ⟨_, rfl, _, rfl, d, .int (a + 1), rfl, DGet.k (k := .inr "at") h2d, _, _, rfl, by omega, by omega, fun v => ?_⟩
        refine ⟨_, rfl, d, .int (u + 1), rfl, DGet.k (k := .inr "used") h2d, _, _, rfl, by omega, by omega, fun v => ?_⟩
        refine ⟨_, rfl, _, _, rfl, rfl, dv _ m0, ?_⟩
        rw [eD]
        refine q _ _ (Int.emod_nonneg _ (by omega)) (Int.emod_lt_of_pos _ m0) ⟨c, a + 1, l, u + 1, cells, h2d, ?_, hne, hlen, by omega, by omega, by omega, by omega⟩ fun b hb => ?_
        · rw [upd_ne (ne_of h1c h1d (by intro z; cases z))]
          exact h1c
        · rw [upd_ne hb]
          exact b1 b hb
      refine ite2 (fun hA => ?_) (fun hA => ?_)
      · refine ⟨_, rfl, d, .int (a + 1), rfl, DGet.k (k := .inr "at") h1d, _, rfl, c, _, rfl, .inl (.of h1c), _, _, rfl, rfl, _, rfl, ite2 (fun hB => ?_) (fun hB => ?_)⟩
        · refine ⟨_, rfl, _, rfl, _, _, rfl, rfl, ⟨m0, m1⟩, _, rfl, d, _, rfl, DPut.k (k := .inr "left") h1d (dr_len ..), ?_⟩
          refine ⟨_, rfl, _, rfl, _, _, rfl, rfl, dv _ m0, q _ _ (Int.emod_nonneg _ (by omega)) (Int.emod_lt_of_pos _ m0) ⟨c, a + 1, cell / m, u, cells, ?_, ?_, hne, hlen, by omega, by omega, u0, by omega⟩ fun b hb => ?_⟩
          · rw [upd_same, dp_left]
          · rw [upd_ne (ne_of h1c h1d (by intro z; cases z))]
            exact h1c
          · rw [upd_ne hb]
            exact b1 b hb
        · exact rest _ rfl
      · exact iteF (rest _ rfl)
theorem ok_begin (F : FnP K "_law_begin" sBegin f fd) : FnOk P w K mg base CX0 1 f fd ["_law_script"] (spBegin K) := by
  refine F.ok scBegin (fun vs H Q E h => ?_) (fun cdv A outer s H vs Q E hr h => ?_)
  · obtain ⟨a, ns, rfl, _⟩ := h
    rfl
  · obtain ⟨a, ns, rfl, hS, hlen, q⟩ := h
    refine ⟨_, PSs.nox (pss_one (ps_ret (pe_disp (pps_cons pe_str (pe_op op_catS (pv 0) (pe_lst (pa_cons pe_int pa_nil))) (pps_cons pe_str pe_int (pps_cons pe_str pe_int (pps_cons pe_str pe_int pps_nil)))) (by rfl) (by rfl) (fun z => by cases z) (by decide)))), ?_⟩
    refine fun d nd => ⟨_, rfl, (by decide), fun z nz => ?_⟩
    have dz : z ≠ d := fun e => by
      rw [e, upd_same] at nz
      cases nz
    have nz0 : H z = none := by
      rw [upd_ne dz] at nz
      exact nz
    have hA : SqL K (upd (upd H d (.dK [])) z (.lst [.int 0])) a (ns.map V.int) := (same_upd nz).seq ((same_upd nd).seq hS)
    refine ⟨a, z, _, _, rfl, rfl, hA, .of upd_same, ?_, fun c nc => ?_⟩
    · rw [List.length_map]
      exact Nat.le_of_lt (small1000 (by show ns.length + 1 ≤ 1000; omega))
    have cz : c ≠ z := fun e => by
      rw [e, upd_same] at nc
      cases nc
    have nc1 : upd H d (.dK []) c = none := by
      rw [upd_ne cz] at nc
      exact nc
    have cd : c ≠ d := fun e => by
      rw [e, upd_same] at nc1
      cases nc1
    have nc0 : H c = none := by
      rw [upd_ne cd] at nc1
      exact nc1
    refine ⟨?_, [(.inr "cells", .ref c), (.inr "at", .int 0), (.inr "left", .int 0), (.inr "used", .int 0)], rfl, (by show 4 ≤ 15; decide), ?_⟩
    · rw [upd_ne cd.symm, upd_ne dz.symm, upd_same]
    · refine q _ d c nc0 nd ⟨c, 0, 0, 0, ns ++ [0], ?_, ?_, ?_, ?_, by decide, by decide, by decide, by decide⟩ fun b hc hd hb => ?_
      · rw [upd_same]
        rfl
      · rw [upd_ne cd, upd_same, List.map_append]
        rfl
      · simp
      · rw [List.length_append]
        show ns.length + 1 ≤ 100
        omega
      · have bz : b ≠ z := fun e => hb (by rw [e]; exact nz0)
        rw [upd_ne hd, upd_ne hc, upd_ne bz, upd_ne hd]
end
theorem Dr.same {H H' : Hp} {d : Addr} {n : Nat} (h : Dr H d n) (s : Same H H') : Dr H' d n := by
  obtain ⟨c, a, l, u, cs, h1, h2, r⟩ := h
  exact ⟨c, a, l, u, cs, s _ _ h1, s _ _ h2, r⟩
theorem Dr.at {H : Hp} {d : Addr} {n : Nat} (h : Dr H d n) : ∃ kvs, H d = some (.dK kvs) := by
  obtain ⟨c, a, l, u, cs, h1, h2, r⟩ := h
  exact ⟨_, h1⟩
/-- a list that isn't the draw stays where one draws -/
theorem But.lst {H H' : Hp} {d p : Addr} {n : Nat} {xs : List V} (b : But d H H') (h : Dr H d n) (e : H p = some (.lst xs)) : H' p = some (.lst xs) := by
  obtain ⟨kvs, ed⟩ := h.at
  rw [b p (ne_of e ed (by intro z; cases z))]
  exact e
end Pb

namespace Pb
open PySem PySem.Spec PyProof.Rows L2
/-! ### things of any kind -/
inductive Kd (H : Hp) : V → String → Prop
  | non : Kd H .non "NoneType"
  | bl (b : Bool) : Kd H (.bl b) "bool"
  | int (i : Int) : Kd H (.int i) "int"
  | str (x : Str) : Kd H (.str x) "str"
  | lst {a : Addr} {xs : List V} (e : H a = some (.lst xs)) : Kd H (.ref a) "list"
  | tup {a : Addr} {xs : List V} (e : H a = some (.tup xs)) : Kd H (.ref a) "tuple"
  | dic {a : Addr} {kvs : List (Key × V)} (e : H a = some (.dK kvs)) : Kd H (.ref a) "dict"
theorem Kd.ty {K : PySem.W.Frag} {H : Hp} {x : V} {T : String} (h : Kd H x T) : TyX K H x (.type T) := by
  cases h with
  | non => exact .base .non
  | bl b => exact .base (.bl b)
  | int i => exact .base (.int i)
  | str x => exact .base (.str x)
  | lst e => exact .base (.lst e)
  | tup e => exact .base (.tup e)
  | dic e => exact .base (.dK e)
theorem Kd.same {H H' : Hp} {x : V} {T : String} (h : Kd H x T) (s : Same H H') : Kd H' x T := by
  cases h with
  | non => exact .non
  | bl b => exact .bl b
  | int i => exact .int i
  | str x => exact .str x
  | lst e => exact .lst (s _ _ e)
  | tup e => exact .tup (s _ _ e)
  | dic e => exact .dic (s _ _ e)
def wholeV (x : V) (l m : Int) : Bool := match x with
  | .int i => decide (l ≤ i) && decide (i ≤ m)
  | _ => false
/-- isinstance(x, T) of a thing of the kind T' -/
theorem Kd.isB {H : Hp} {x : V} {T : String} (h : Kd H x T) : kitB T "int" = some (decide (T = "int" ∨ T = "bool")) ∧ kitB T "bool" = some (decide (T = "bool")) ∧ kitB T "str" = some (decide (T = "str")) := by
  cases h <;> refine ⟨?_, ?_, ?_⟩ <;> decide +kernel
def ltr : Str := "abcdefghijklmnopqrstuvwxyz"
def nameL (z : Str) : Bool := decide (1 ≤ z.length) && (decide (z.length ≤ 8) && z.cps.toList.all fun c => decide (c ∈ ltr.cps.toList))
def nameV (x : V) : Bool := match x with
  | .str z => nameL z
  | _ => false
structure B0 (mg : Str → Option Value) : Prop where
  i : mg "isinstance" = none
  n : mg "int" = none
  b : mg "bool" = none
  s : mg "str" = none
  l : mg "len" = none
  a : mg "all" = none
  li : mg "list" = none
abbrev sWhole : Stmt := top 18
abbrev sName : Stmt := top 19
abbrev sLIsName : Stmt := top 31
abbrev sLIsWhole : Stmt := top 32
abbrev FnD (K : PySem.W.Frag) (x : Str) (st : Stmt) (dvs : List V) (f : Addr) (fd : FuncData) : Prop := FunD K x x (defArgs st) (defBody st) (defScope st) dvs [] f fd
theorem scWhole : FnScope ["thing", "least", "most"] ["thing", "least", "most"] (defScope sWhole) := ⟨rfl, rfl, rfl, by decide +kernel, rfl, by decide +kernel, by decide +kernel⟩
theorem scLIsWhole : FnScope ["_law_thing", "_law_least", "_law_most"] ["_law_thing", "_law_least", "_law_most"] (defScope sLIsWhole) := ⟨rfl, rfl, rfl, by decide +kernel, rfl, by decide +kernel, by decide +kernel⟩
def spWhole : Sp := fun vs H Q _ => ∃ (x : V) (T : String) (l m : Int), vs = [x, .int l, .int m] ∧ Kd H x T ∧ Q (.bl (wholeV x l m)) H
def tWhole (K : PySem.W.Frag) : TE := tAndV (tCB (rIsi K) (tCons (tVar 0) (tCons (tC (.ty "int")) tNil))) (tAndV (tNotV (tCB (rIsi K) (tCons (tVar 0) (tCons (tC (.ty "bool")) tNil)))) (tChain (rI0 fun i j => .bl (decide (i ≤ j))) (rI0 fun i j => .bl (decide (i ≤ j))) (tVar 1) (tVar 0) (tVar 2)))
theorem whole_ok {K : PySem.W.Frag} {x : V} {T : String} {l m : Int} {H : Hp} {Q : VK} (h : Kd H x T) (q : Q (.bl (wholeV x l m)) H) : tWhole K [some x, some (.int l), some (.int m)] H Q := by
  obtain ⟨k1, k2, _⟩ := h.isB
  have ty := h.ty (K := K)
  refine ⟨_, rfl, x, _, _, _, _, rfl, .ty "int", ty, kit_ty k1, _, rfl, ?_⟩
  by_cases e : T = "int" ∨ T = "bool"
  · rw [decide_eq_true e]
    refine iteT ⟨_, rfl, x, _, _, _, _, rfl, .ty "bool", ty, kit_ty k2, _, rfl, _, rfl, ?_⟩
    cases h with
    | int i =>
      refine iteT ⟨_, rfl, _, rfl, _, _, rfl, rfl, _, rfl, ?_⟩
      unfold wholeV at q
      dsimp only at q
      by_cases c : l ≤ i
      · rw [decide_eq_true c] at q ⊢
        exact iteT ⟨_, rfl, _, _, rfl, rfl, q⟩
      · rw [decide_eq_false c] at q ⊢
        exact iteF q
    | bl b => exact iteF q
    | _ => exact absurd e (by decide)
  · rw [decide_eq_false e]
    refine iteF ?_
    cases h with
    | int i => exact absurd (.inl rfl) e
    | _ => exact q
section
variable {P : Program} {w : World} {K : PySem.W.Frag} {mg : Str → Option Value} {base : Heap} {f : Addr} {fd : FuncData} {dvs : List V}
theorem ok_whole (F : FnD K "is_whole" sWhole dvs f fd) (B : B0 mg) : FnOk P w K mg base CX0 1 f fd ["thing", "least", "most"] spWhole := by
  refine F.ok scWhole (fun vs H Q E h => ?_) (fun cdv A outer s H vs Q E hr h => ?_)
  · obtain ⟨x, T, l, m, rfl, _⟩ := h
    rfl
  · obtain ⟨x, T, l, m, rfl, hk, q⟩ := h
    exact ⟨tRet (tWhole K), PSs.nox (pss_one (ps_ret (pe_and (pe_callB call_isi rfl B.i boot_isinstance (pa_cons (pv 0) (pa_cons (pe_bltn rfl B.n PyProof.Rows.boot_int rfl) pa_nil)))
      (pe_and (pe_not (pe_callB call_isi rfl B.i boot_isinstance (pa_cons (pv 0) (pa_cons (pe_bltn rfl B.b (by decide +kernel) rfl) pa_nil)))) (pe_one (pe_chain op_le op_le (pv 1) (pv 0) (pv 2))))))), whole_ok hk q⟩
theorem ok_lwhole (F : FnD K "_law_is_whole" sLIsWhole dvs f fd) (B : B0 mg) : FnOk P w K mg base CX0 1 f fd ["_law_thing", "_law_least", "_law_most"] spWhole := by
  refine F.ok scLIsWhole (fun vs H Q E h => ?_) (fun cdv A outer s H vs Q E hr h => ?_)
  · obtain ⟨x, T, l, m, rfl, _⟩ := h
    rfl
  · obtain ⟨x, T, l, m, rfl, hk, q⟩ := h
    exact ⟨tRet (tWhole K), PSs.nox (pss_one (ps_ret (pe_and (pe_callB call_isi rfl B.i boot_isinstance (pa_cons (pv 0) (pa_cons (pe_bltn rfl B.n PyProof.Rows.boot_int rfl) pa_nil)))
      (pe_and (pe_not (pe_callB call_isi rfl B.i boot_isinstance (pa_cons (pv 0) (pa_cons (pe_bltn rfl B.b (by decide +kernel) rfl) pa_nil)))) (pe_one (pe_chain op_le op_le (pv 1) (pv 0) (pv 2))))))), whole_ok hk q⟩
end
end Pb

namespace Pb
open PySem PySem.Spec PyProof.Rows L2
/-! ### comprehensions over the signs of a text -/
def rInS : R2 := fun x y H Q => ∃ (c : Nat) (z : Str), x = .str ⟨#[c]⟩ ∧ y = .str z ∧ Q (.bl (decide (c ∈ z.cps.toList))) H
def rNinS : R2 := fun x y H Q => ∃ (c : Nat) (z : Str), x = .str ⟨#[c]⟩ ∧ y = .str z ∧ Q (.bl (!decide (c ∈ z.cps.toList))) H
theorem set_get {σ : L2.St} {i : Nat} {x : Option V} (h : i < σ.length) : (σ.set i x)[i]? = some x := List.getElem?_set_self h
theorem arr_get {z : Str} {i c : Nat} (h : z.cps[i]? = some c) : z.cps.toList[i]? = some c := by rw [Array.getElem?_toList]; exact h
theorem lc_in {z : Str} {L : TE} {l : Str} {i j : Nat} {σ : L2.St} {H : Hp} {Q : VK} (hL : ∀ σ' H' Q', σ'.length = σ.length → (∀ k, k ≠ i → σ'[k]? = σ[k]?) → Q' (.str l) H' → L σ' H' Q') (hi : i < σ.length) (h0 : σ[j]? = some (some (.str z))) (hz : z.cps.size < sizeLine)
    (q : ∀ H' p, Same H H' → H p = none → H' p = some (.lst ((z.cps.toList.map fun c => decide (c ∈ l.cps.toList)).map V.bl)) → Q (.ref p) H') : tLc (iStr (tVar j)) (gName i) tYes (tOp rInS (tVar i) L) [i] σ H Q := by
  refine ⟨_, h0, z, rfl, fun D hD => lc_it walk_str (fun m H' => Same H H' ∧ H' D = some (.lst (((z.cps.toList.take m).map fun c => decide (c ∈ l.cps.toList)).map V.bl))) ⟨same_upd hD, upd_same⟩ (fun _ _ _ _ => trivial) (fun m x H1 H2 hm pv y => ?_) fun H' pv => ?_⟩
  · obtain ⟨sm, eD⟩ := pv
    obtain ⟨e, c, gc, ex⟩ := y
    subst e ex
    have lw : i < (wipe σ [i]).length := by rw [wipe_length]; exact hi
    have es : ∀ x, ((wipe σ [i]).set i (some x))[i]? = some (some x) := fun x => set_get lw
    refine ⟨?_, ?_⟩
    · show (((σ.set i none).set i _).set i none) = σ.set i none
      rw [List.set_set, List.set_set]
    · dsimp only [tYes]
      rw [if_pos rfl]
      refine ⟨_, es _, ?_⟩
      refine hL _ _ _ (by rw [List.length_set, wipe_length]) (fun k hk => ?_) ⟨c, l, rfl, rfl, _, eD, ?_, fun b o e => ?_, ?_⟩
      · show ((σ.set i none).set i _)[k]? = σ[k]?
        rw [List.getElem?_set_ne (Ne.symm hk), List.getElem?_set_ne (Ne.symm hk)]
      · rw [List.length_map, List.length_map, List.length_take]
        exact Nat.lt_of_le_of_lt (Nat.min_le_right _ _) (by rw [Array.length_toList]; exact hz)
      · rw [upd_ne (ne_of_none e hD)]
        exact sm _ _ e
      · rw [upd_same, List.take_add_one, arr_get gc, List.map_append, List.map_append]
        rfl
  · obtain ⟨sm, eD⟩ := pv
    rw [show z.cps.size = z.cps.toList.length from Array.length_toList.symm, List.take_length] at eD
    exact q _ _ sm hD eD
/-- the signs of z that aren't in l -/
def badL (z l : Str) : List Nat := z.cps.toList.filter fun c => !decide (c ∈ l.cps.toList)
theorem lc_nin {z : Str} {L : TE} {l : Str} {i j : Nat} {σ : L2.St} {H : Hp} {Q : VK} (hL : ∀ σ' H' Q', σ'.length = σ.length → (∀ k, k ≠ i → σ'[k]? = σ[k]?) → Q' (.str l) H' → L σ' H' Q') (hi : i < σ.length) (h0 : σ[j]? = some (some (.str z))) (hz : z.cps.size < sizeLine)
    (q : ∀ H' p, Same H H' → H p = none → H' p = some (.lst ((badL z l).map fun c => V.str ⟨#[c]⟩)) → Q (.ref p) H') : tLc (iStr (tVar j)) (gName i) (tB (tOp rNinS (tVar i) L)) (tVar i) [i] σ H Q := by
  refine ⟨_, h0, z, rfl, fun D hD => lc_it walk_str (fun m H' => Same H H' ∧ H' D = some (.lst (((z.cps.toList.take m).filter fun c => !decide (c ∈ l.cps.toList)).map fun c => V.str ⟨#[c]⟩))) ⟨same_upd hD, upd_same⟩ (fun _ _ _ _ => trivial) (fun m x H1 H2 hm pv y => ?_) fun H' pv => ?_⟩
  · obtain ⟨sm, eD⟩ := pv
    obtain ⟨e, c, gc, ex⟩ := y
    subst e ex
    have lw : i < (wipe σ [i]).length := by rw [wipe_length]; exact hi
    have es : ∀ x, ((wipe σ [i]).set i (some x))[i]? = some (some x) := fun x => set_get lw
    refine ⟨?_, _, es _, ?_⟩
    · show (((σ.set i none).set i _).set i none) = σ.set i none
      rw [List.set_set, List.set_set]
    · refine hL _ _ _ (by rw [List.length_set, wipe_length]) (fun k hk => ?_) ⟨c, l, rfl, rfl, _, rfl, ?_⟩
      · show ((σ.set i none).set i _)[k]? = σ[k]?
        rw [List.getElem?_set_ne (Ne.symm hk), List.getElem?_set_ne (Ne.symm hk)]
      · have tk : (z.cps.toList.take (m + 1)).filter (fun c => !decide (c ∈ l.cps.toList)) = (z.cps.toList.take m).filter (fun c => !decide (c ∈ l.cps.toList)) ++ (if (!decide (c ∈ l.cps.toList)) = true then [c] else []) := by
          rw [List.take_add_one, arr_get gc, List.filter_append]
          congr 1
          show List.filter _ [c] = _
          rw [List.filter_cons, List.filter_nil]
        dsimp only
        by_cases hc : (!decide (c ∈ l.cps.toList)) = true
        · rw [if_pos hc]
          rw [if_pos hc] at tk
          refine ⟨_, es _, _, eD, ?_, fun b o e => ?_, ?_⟩
          · rw [List.length_map]
            exact Nat.lt_of_le_of_lt (List.length_filter_le _ _) (Nat.lt_of_le_of_lt (by rw [List.length_take]; exact Nat.min_le_right _ _) (by rw [Array.length_toList]; exact hz))
          · rw [upd_ne (ne_of_none e hD)]
            exact sm _ _ e
          · rw [upd_same, tk, List.map_append]
            rfl
        · rw [if_neg hc]
          rw [if_neg hc, List.append_nil] at tk
          exact ⟨sm, by rw [eD, tk]⟩
  · obtain ⟨sm, eD⟩ := pv
    rw [show z.cps.size = z.cps.toList.length from Array.length_toList.symm, List.take_length] at eD
    exact q _ _ sm hD eD
theorem bad_nil (z l : Str) : badL z l = [] ↔ (z.cps.toList.all fun c => decide (c ∈ l.cps.toList)) = true := by
  unfold badL
  rw [List.filter_eq_nil_iff, List.all_eq_true]
  constructor
  · intro h c hc
    have := h c hc
    cases e : decide (c ∈ l.cps.toList) with
    | true => rfl
    | false =>
      rw [e] at this
      exact absurd rfl this
  · intro h c hc
    rw [h c hc]
    simp
/-! ### is_name, twice -/
def spName (K : PySem.W.Frag) : Sp := fun vs H Q _ => ∃ (x : V) (T : String), vs = [x] ∧ Kd H x T ∧ (∀ z, x = .str z → z.cps.size < sizeLine) ∧ ∀ H', Same H H' → Q (.bl (nameV x)) H'
theorem scName : FnScope ["thing", "sign"] ["thing"] (defScope sName) := ⟨rfl, rfl, rfl, by decide +kernel, rfl, by decide +kernel, by decide +kernel⟩
theorem scLIsName : FnScope ["_law_thing", "_law_letters", "_law_one"] ["_law_thing"] (defScope sLIsName) := ⟨rfl, rfl, rfl, by decide +kernel, rfl, by decide +kernel, by decide +kernel⟩
theorem all_id (l : List Nat) (p : Nat → Bool) : (l.map p).all id = l.all p := by rw [List.all_map]; rfl
section
variable {P : Program} {w : World} {K : PySem.W.Frag} {mg : Str → Option Value} {base : Heap} {f : Addr} {fd : FuncData} {dvs : List V}
theorem ok_name (F : FnD K "is_name" sName [] f fd) (B : B0 mg) {t1 t2 : Tok} (gL : mg "LETTERS" = some (.str ltr t1)) (gN : mg "LONGEST_NAME" = some (.int 8 t2)) : FnOk P w K mg base CX0 1 f fd ["thing"] (spName K) := by
  refine F.ok scName (fun vs H Q E h => ?_) (fun cdv A outer s H vs Q E hr h => ?_)
  · obtain ⟨x, T, rfl, _⟩ := h
    rfl
  · obtain ⟨x, T, rfl, hk, hz, q⟩ := h
    refine ⟨_, PSs.nox (pss_cons (ps_if (PW.pt (pw_or (pt_not (pt_val (pe_callB call_isi rfl B.i boot_isinstance (pa_cons (pv 0) (pa_cons (pe_bltn (v := .ty "str") rfl B.s PyProof.Rows.boot_str rfl) pa_nil)))))
        (pw_or1 (pt_not (pt_chain op_le op_le pe_int (pe_callB call_len rfl B.l PySem.boot_len (pa_cons (pv 0) pa_nil)) (pe_glob (v := .int 8) rfl gN ⟨_, rfl⟩)))))) (pss_one (ps_ret pe_bl)) pss_nil)
      (pss_one (ps_ret (pe_callB (cr_all rfl) rfl B.a (by decide +kernel) (pa_cons (pe_lc (own := [("sign", 1)]) (g := gName 1) (tt := tYes) (te := tOp rInS (tVar 1) (tC (.str ltr))) rfl scName.nd (pi_str (pv 0)) (blkOk_by (N := ["thing", "sign"]) (sc := defScope sName) (by decide +kernel))
        (fun _ _ _ _ _ => pg_name (i := 1) scName.nd rfl (.inl rfl)) (fun _ _ _ _ _ => pts_nil) (fun _ _ _ _ _ => pe_cmpR op_in_sign (pv 1) (pe_glob rfl gL ⟨_, rfl⟩) rfl)) pa_nil))))), ?_⟩
    dsimp only [cxOf]
    obtain ⟨_, _, k3⟩ := hk.isB
    refine ⟨_, rfl, x, _, _, _, _, rfl, .ty "str", hk.ty, kit_ty k3, _, rfl, ?_⟩
    cases hk with
    | str z =>
      have zl := hz z rfl
      refine iteF ⟨_, rfl, .str z, z.length, rfl, ⟨Nat.le_of_lt zl, rfl⟩, _, _, rfl, rfl, _, rfl, ?_⟩
      have fin : (1 : Int) ≤ z.length → (z.length : Int) ≤ 8 → _ := fun c1 c2 => lc_in (Q := fun v H1 => rAll K [v] H1 Q) (σ := [some (.str z), none]) (i := 1) (j := 0) (L := tC (.str ltr)) (H := H) (fun _ _ _ _ _ q => q) (Nat.lt_of_sub_eq_succ rfl) rfl zl fun H' p sm np ep =>
        ⟨p, _, rfl, .of ep, by
          have nl : nameL z = z.cps.toList.all fun c => decide (c ∈ ltr.cps.toList) := by
            unfold nameL
            rw [decide_eq_true (by omega), decide_eq_true (by omega)]
            rfl
          have qq := q H' sm
          rw [all_id, ← nl]
          exact qq⟩
      have no : ∀ c : Bool, nameL z = false → _ := fun _ e => by
        have qq := q H (Same.refl _)
        rw [show nameV (.str z) = nameL z from rfl, e] at qq
        exact qq
      by_cases c1 : (1 : Int) ≤ z.length
      · rw [decide_eq_true c1]
        refine iteT ⟨_, _, rfl, rfl, _, rfl, ?_⟩
        by_cases c2 : (z.length : Int) ≤ 8
        · rw [decide_eq_true c2]
          exact iteF (fin c1 c2)
        · rw [decide_eq_false c2]
          refine iteT (no true ?_)
          unfold nameL
          rw [decide_eq_false (show ¬ z.length ≤ 8 by omega), Bool.false_and, Bool.and_false]
      · rw [decide_eq_false c1]
        refine iteF ⟨_, rfl, iteT (no true ?_)⟩
        unfold nameL
        rw [decide_eq_false (show ¬ 1 ≤ z.length by omega)]
        rfl
    | _ => exact iteT (q H (Same.refl _))
end
end Pb

namespace Pb
open PySem PySem.Spec PyProof.Rows L2
/-- a text of plain signs, not too long -/
structure Pl (z : Str) : Prop where
  asc : ∀ c ∈ z.cps.toList, c < 128
  sz : z.cps.size ≤ 20000
theorem Pl.small {z : Str} (h : Pl z) : z.cps.size < sizeLine := Nat.lt_of_le_of_lt h.sz (by decide)
theorem lay_str {z : Str} (h : ∀ c ∈ z.cps.toList, c < 128) : PyData.canLay0 (.str z) = true := by
  show (z.cps.all (· < 0x110000)) = true
  rw [← Array.all_toList, List.all_eq_true]
  intro c hc
  exact decide_eq_true (Nat.lt_trans (h c hc) (by decide))
theorem lay_all : ∀ (ds : List PyData), (∀ d ∈ ds, d.canLay0 = true) → PyData.canLayAll0 ds = true
  | [], _ => rfl
  | d :: ds, h => by
    show (d.canLay0 && PyData.canLayAll0 ds) = true
    rw [h d List.mem_cons_self, lay_all ds fun e he => h e (List.mem_cons_of_mem _ he)]
    rfl
theorem depth_all {k : Nat} : ∀ (ds : List PyData), (∀ d ∈ ds, d.depth ≤ k) → PyData.depthAll ds ≤ k
  | [], _ => Nat.zero_le _
  | d :: ds, h => by
    show max d.depth (PyData.depthAll ds) ≤ k
    exact Nat.max_le.mpr ⟨h d List.mem_cons_self, depth_all ds fun e he => h e (List.mem_cons_of_mem _ he)⟩
/-- a list of plain texts, as data -/
theorem shp_strs {ys : List Str} (h : ∀ y ∈ ys, ∀ c ∈ y.cps.toList, c < 128) : SeqAt.shaped (.list (ys.map .str)) = true := by
  have a : PyData.canLay0 (.list (ys.map .str)) = true := lay_all _ fun d hd => by
    obtain ⟨y, hy, e⟩ := List.mem_map.mp hd
    rw [← e]
    exact lay_str (h y hy)
  have b : (PyData.list (ys.map .str)).depth ≤ 64 := by
    show PyData.depthAll (ys.map .str) + 1 ≤ 64
    have : PyData.depthAll (ys.map .str) ≤ 0 := depth_all _ fun d hd => by
      obtain ⟨y, hy, e⟩ := List.mem_map.mp hd
      rw [← e]
      exact Nat.le_refl _
    omega
  unfold SeqAt.shaped
  rw [a, decide_eq_true b]
  rfl
theorem dp_strs {K : PySem.W.Frag} {H : Hp} {p : Addr} (ys : List Str) (e : H p = some (.lst (ys.map V.str))) : Dp K H (.ref p) (.list (ys.map .str)) := by
  refine .lst (.of e) ?_
  clear e
  induction ys with
  | nil => exact .nil
  | cons y r ih => exact .cons (.str y) ih
def spLName (K : PySem.W.Frag) : Sp := fun vs H Q _ => ∃ (x : V) (T : String), vs = [x] ∧ Kd H x T ∧ (∀ z, x = .str z → Pl z) ∧ ∀ H', Same H H' → Q (.bl (nameV x)) H'
section
variable {P : Program} {w : World} {K : PySem.W.Frag} {mg : Str → Option Value} {base : Heap} {f : Addr} {fd : FuncData} {dvs : List V}
theorem ok_lname (F : FnD K "_law_is_name" sLIsName [] f fd) (B : B0 mg) : FnOk P w K mg base CX0 1 f fd ["_law_thing"] (spLName K) := by
  refine F.ok scLIsName (fun vs H Q E h => ?_) (fun cdv A outer s H vs Q E hr h => ?_)
  · obtain ⟨x, T, rfl, _⟩ := h
    rfl
  · obtain ⟨x, T, rfl, hk, hz, q⟩ := h
    refine ⟨_, PSs.nox (pss_cons (ps_set (i := 1) scLIsName.nd rfl (.inr rfl) pe_str)
      (pss_one (ps_ret (pe_and (pe_callB call_isi rfl B.i boot_isinstance (pa_cons (pv 0) (pa_cons (pe_bltn (v := .ty "str") rfl B.s PyProof.Rows.boot_str rfl) pa_nil)))
        (pe_and (pe_chain op_lt op_lt pe_int (pe_callB call_len rfl B.l PySem.boot_len (pa_cons (pv 0) pa_nil)) pe_int)
        (pe_one (pe_cmpR (op_eqD hr.units) (pe_lc (own := [("_law_one", 2)]) (g := gName 2) (tt := tB (tOp rNinS (tVar 2) (tVar 1))) (te := tVar 2) rfl scLIsName.nd (pi_str (pv 0)) (blkOk_by (N := ["_law_thing", "_law_letters", "_law_one"]) (sc := defScope sLIsName) (by decide +kernel))
          (fun _ _ _ _ _ => pg_name (i := 2) scLIsName.nd rfl (.inl rfl)) (fun _ _ _ _ _ => pts_one (pt_cmpR op_notIn_sign (pv 2) (pv 1) rfl)) (fun _ _ _ _ _ => pv 2)) (pe_lst pa_nil) (nomark _)))))))), ?_⟩
    dsimp only [cxOf]
    obtain ⟨_, _, k3⟩ := hk.isB
    refine ⟨_, rfl, x, _, _, _, _, rfl, .ty "str", hk.ty, kit_ty k3, _, rfl, ?_⟩
    cases hk with
    | str z =>
      have pl := hz z rfl
      refine iteT ⟨_, rfl, .str z, z.length, rfl, ⟨Nat.le_of_lt pl.small, rfl⟩, _, _, rfl, rfl, _, rfl, ?_⟩
      have no : nameL z = false → Q (.bl false) H := fun e => by
        have qq := q H (Same.refl _)
        rw [show nameV (.str z) = nameL z from rfl, e] at qq
        exact qq
      by_cases c1 : (0 : Int) < z.length
      · rw [decide_eq_true c1]
        refine iteT ⟨_, _, rfl, rfl, _, rfl, ?_⟩
        by_cases c2 : (z.length : Int) < 9
        · rw [decide_eq_true c2]
          refine iteT (lc_nin (σ := [some (.str z), some (.str ltr), none]) (i := 2) (j := 0) (L := tVar 1) (l := ltr) (fun σ' H' Q' _ hs q => ⟨_, (hs 1 (by decide)).trans rfl, q⟩) (Nat.lt_of_sub_eq_succ rfl) rfl pl.small fun H' p sm np ep => ⟨Nat.zero_le _, fun p2 np2 => ?_⟩)
          have e2 : ((badL z ltr).map fun c => V.str ⟨#[c]⟩) = ((badL z ltr).map fun c => (⟨#[c]⟩ : Str)).map V.str := by rw [List.map_map]; rfl
          rw [e2] at ep
          have hb : ∀ y ∈ (badL z ltr).map (fun c => (⟨#[c]⟩ : Str)), ∀ c ∈ y.cps.toList, c < 128 := fun y hy c hc => by
            obtain ⟨d, hd, ed⟩ := List.mem_map.mp hy
            rw [← ed] at hc
            have ec : c = d := by simpa using hc
            rw [ec]
            exact pl.asc d (List.mem_filter.mp hd).1
          refine ⟨_, .list [], dp_strs _ (same_upd np2 _ _ ep), .lst (.of upd_same) .nil, shp_strs hb, rfl, ?_⟩
          have nl : nameL z = z.cps.toList.all fun c => decide (c ∈ ltr.cps.toList) := by
            unfold nameL
            rw [decide_eq_true (by omega), decide_eq_true (by omega)]
            rfl
          have qq := q _ (sm.trans (same_upd np2 (o := .lst [])))
          have ev : PyData.eqv (.list (((badL z ltr).map fun c => (⟨#[c]⟩ : Str)).map .str)) (.list []) = nameL z := by
            rw [nl]
            cases e : badL z ltr with
            | nil => exact ((bad_nil z ltr).mp e).symm
            | cons c r =>
              show false = _
              cases y : (z.cps.toList.all fun c => decide (c ∈ ltr.cps.toList)) with
              | false => rfl
              | true =>
                rw [(bad_nil z ltr).mpr y] at e
                cases e
          rw [ev]
          exact qq
        · rw [decide_eq_false c2]
          refine iteF (no ?_)
          unfold nameL
          rw [decide_eq_false (show ¬ z.length ≤ 8 by omega), Bool.false_and, Bool.and_false]
      · rw [decide_eq_false c1]
        refine iteF ⟨_, rfl, iteF (no ?_)⟩
        unfold nameL
        rw [decide_eq_false (show ¬ 1 ≤ z.length by omega)]
        rfl
    | _ => exact iteF (q H (Same.refl _))
end
end Pb

namespace Pb
open PySem PySem.Spec PyProof.Rows L2
/-! ### need_name, need_day, what they say -/
def cN (K : PySem.W.Frag) : Addr := He.ga K "BadName"
def cD (K : PySem.W.Frag) : Addr := He.ga K "BadDay"
def oth : List Str := ["BadBook", "BadLegs", "BadLine", "BadPlan", "BadSection", "BadText", "BadThing", "SecondBook"]
structure CE1 (K : PySem.W.Frag) (mg : Str → Option Value) : Prop where
  gN : mg "BadName" = some (.ref (cN K))
  gD : mg "BadDay" = some (.ref (cD K))
  gP : mg "PathError" = some (.ref (He.ga K "PathError"))
  gO : ∀ x ∈ oth, mg x = some (.ref (He.ga K x))
  xN : PySem.W.excIn K (cN K) mroV "ValueError.__new__" = true
  xD : PySem.W.excIn K (cD K) mroV "ValueError.__new__" = true
  tN : XC K (cN K) mroV "ValueError.__new__"
  tD : XC K (cD K) mroV "ValueError.__new__"
  mN : PySem.W.exmOne K (.ref (cN K)) (.ref (He.ga K "PathError")) = some true
  mD : PySem.W.exmOne K (.ref (cD K)) (.ref (He.ga K "PathError")) = some true
  oN : PySem.W.kitAny K (.ref (cN K)) (oth.map fun x => .ref (He.ga K x)) = some false
  oD : PySem.W.kitAny K (.ref (cD K)) (oth.map fun x => .ref (He.ga K x)) = some false
  nn : PySem.W.kitOne K (.ref (cN K)) (.ref (cN K)) = some true
  nd : PySem.W.kitOne K (.ref (cN K)) (.ref (cD K)) = some false
  dn : PySem.W.kitOne K (.ref (cD K)) (.ref (cN K)) = some false
  dd : PySem.W.kitOne K (.ref (cD K)) (.ref (cD K)) = some true
def tRs (m : L2.St → Hp → XK → Prop) (W : WX) : TS := fun _ σ H => m σ H fun cls d H' => W cls d σ H'
def mk0 (C : Addr) : L2.St → Hp → XK → Prop := fun _ H Q => Q (.ref C) none H
abbrev sNeedN : Stmt := top 20
abbrev sNeedD : Stmt := top 21
theorem scNeedN : FnScope ["thing"] ["thing"] (defScope sNeedN) := ⟨rfl, rfl, rfl, by decide +kernel, rfl, by decide +kernel, by decide +kernel⟩
theorem scNeedD : FnScope ["thing"] ["thing"] (defScope sNeedD) := ⟨rfl, rfl, rfl, by decide +kernel, rfl, by decide +kernel, by decide +kernel⟩
def spNeed (C : Addr) (p : V → Bool) : Sp := fun vs H Q E => ∃ (x : V) (T : String), vs = [x] ∧ Kd H x T ∧ (∀ z, x = .str z → z.cps.size < sizeLine) ∧ (p x = true → ∀ H', Same H H' → Q .non H') ∧ (p x = false → ∀ H', Same H H' → E (.ref C) none H')
section
variable {P : Program} {w : World} {K : PySem.W.Frag} {mg : Str → Option Value} {base : Heap} {f : Addr} {fd : FuncData} {dvs : List V}
theorem ok_needN {fN : Addr} {fdN : FuncData} (F : FnD K "need_name" sNeedN [] f fd) (C : CE1 K mg) (FN : FnD K "is_name" sName [] fN fdN) (gN : mg "is_name" = some (.ref fN)) (GN : FnOk P w K mg base CX0 1 fN fdN ["thing"] (spName K)) :
    FnOk P w K mg base (L2.CX P w) 2 f fd ["thing"] (spNeed (cN K) nameV) := by
  have bN : Binds K fdN ["thing"] [] := FN.bindsN fun _ _ _ _ _ _ us hl => match us, hl with | [_], _ => rfl
  refine F.ok scNeedN (fun vs H Q E h => ?_) (fun cdv A outer s H vs Q E hr h => ?_)
  · obtain ⟨x, T, rfl, _⟩ := h
    rfl
  · obtain ⟨x, T, rfl, hk, hz, q1, q2⟩ := h
    refine ⟨tIfS (tNot (tB (tCall (spName K) [] E0 (tCons (tVar 0) tNil)))) (tRs (mk0 (cN K)) fun cls d _ H => E cls d H) tNext,
      pss_one (ps_if (pt_not (pt_val (pe_call GN hr rfl gN FN.kp bN .nil pass0 (pa_cons (pv 0) pa_nil)))) (pss_one (ps_raise (t := mk0 (cN K)) (W := fun cls d _ H => E cls d H) rfl (takes_of rfl rfl rfl rfl) (pmk_own PySem.F.excBase_ValueError C.xN C.gN C.tN.kp (raises_own C.tN.sub C.tN.ty) rfl))) pss_nil), ?_⟩
    refine ⟨_, rfl, x, T, rfl, hk, hz, fun H' sm => ⟨_, rfl, ?_⟩⟩
    cases e : nameV x with
    | true => exact iteF (q1 e H' sm)
    | false => exact iteT (q2 e H' sm)
theorem ok_needD {fW : Addr} {fdW : FuncData} {t1 : Tok} (F : FnD K "need_day" sNeedD [] f fd) (C : CE1 K mg) (FW : FnD K "is_whole" sWhole [.int 0, .int 9999] fW fdW) (gW : mg "is_whole" = some (.ref fW)) (gL : mg "LAST_DAY" = some (.int 9999 t1)) (GW : FnOk P w K mg base CX0 1 fW fdW ["thing", "least", "most"] spWhole) :
    FnOk P w K mg base (L2.CX P w) 2 f fd ["thing"] (spNeed (cD K) fun x => wholeV x 0 9999) := by
  obtain ⟨ds, hds, bW⟩ := FunD.binds1 (ps := ["thing", "least", "most"]) FW 3 2 (by simp) rfl fun _ _ _ _ _ _ _ us its l1 l2 => match us, its, l1, l2 with | [_, _, _], [_, _], _, _ => ⟨_, rfl, rfl⟩
  refine F.ok scNeedD (fun vs H Q E h => ?_) (fun cdv A outer s H vs Q E hr h => ?_)
  · obtain ⟨x, T, rfl, _⟩ := h
    rfl
  · obtain ⟨x, T, rfl, hk, hz, q1, q2⟩ := h
    refine ⟨tIfS (tNot (tB (tCall spWhole [] E0 (tCons (tVar 0) (tCons (tC (.int 0)) (tCons (tC (.int 9999)) tNil)))))) (tRs (mk0 (cD K)) fun cls d _ H => E cls d H) tNext,
      pss_one (ps_if (pt_not (pt_val (pe_call GW hr rfl gW FW.kp bW hds pass0 (pa_cons (pv 0) (pa_cons pe_int (pa_cons (pe_glob rfl gL ⟨_, rfl⟩) pa_nil)))))) (pss_one (ps_raise (t := mk0 (cD K)) (W := fun cls d _ H => E cls d H) rfl (takes_of rfl rfl rfl rfl) (pmk_own PySem.F.excBase_ValueError C.xD C.gD C.tD.kp (raises_own C.tD.sub C.tD.ty) rfl))) pss_nil), ?_⟩
    refine ⟨_, rfl, x, T, 0, 9999, rfl, hk, _, rfl, ?_⟩
    cases e : wholeV x 0 9999 with
    | true => exact iteF (q1 e H (Same.refl _))
    | false => exact iteT (q2 e H (Same.refl _))
end
end Pb

namespace Pb
open PySem PySem.Spec PyProof.Rows L2
def saidT (way : Int) (x : V) : Str := if way = 0 then (if nameV x then "none" else "name") else (if wholeV x 0 9999 then "none" else "day")
def spSaid : Sp := fun vs H Q _ => ∃ (way : Int) (x : V) (T : String), vs = [.int way, x] ∧ Kd H x T ∧ (∀ z, x = .str z → z.cps.size < sizeLine) ∧ ∀ H', Same H H' → Q (.str (saidT way x)) H'
abbrev sSaid : Stmt := top 35
theorem scSaid : FnScope ["_law_way", "_law_thing", "_law_e", "_law_found", "error"] ["_law_way", "_law_thing"] (defScope sSaid) := ⟨rfl, rfl, rfl, by decide +kernel, rfl, by decide +kernel, by decide +kernel⟩
def tTry (K : PySem.W.Frag) (W : WX) : TS := tAsg (tIf (tTest (tOp rEq (tVar 0) (tC (.int 0)))) (tCallS (spNeed (cN K) nameV) (WE W) (tCons (tVar 1) tNil)) (tCallS (spNeed (cD K) fun x => wholeV x 0 9999) (WE W) (tCons (tVar 1) tNil))) (gName 3)
section
variable {P : Program} {w : World} {K : PySem.W.Frag} {mg : Str → Option Value} {base : Heap} {f : Addr} {fd : FuncData} {dvs : List V}
theorem ok_said {fN fD : Addr} {dN dD : FuncData} (F : FnD K "_law_said" sSaid [] f fd) (B : B0 mg) (C : CE1 K mg) (FN : FnD K "need_name" sNeedN [] fN dN) (gN : mg "need_name" = some (.ref fN)) (GN : FnOk P w K mg base (L2.CX P w) 2 fN dN ["thing"] (spNeed (cN K) nameV))
    (FD : FnD K "need_day" sNeedD [] fD dD) (gD : mg "need_day" = some (.ref fD)) (GD : FnOk P w K mg base (L2.CX P w) 2 fD dD ["thing"] (spNeed (cD K) fun x => wholeV x 0 9999)) : FnOk P w K mg base CX0 3 f fd ["_law_way", "_law_thing"] spSaid := by
  have bN : Binds K dN ["thing"] [] := FN.bindsN fun _ _ _ _ _ _ us hl => match us, hl with | [_], _ => rfl
  have bD : Binds K dD ["thing"] [] := FD.bindsN fun _ _ _ _ _ _ us hl => match us, hl with | [_], _ => rfl
  refine F.ok scSaid (fun vs H Q E h => ?_) (fun cdv A outer s H vs Q E hr h => ?_)
  · obtain ⟨way, x, T, rfl, _⟩ := h
    rfl
  · obtain ⟨way, x, T, rfl, hk, hz, q⟩ := h
    refine ⟨_, PSs.nox (pss_cons (ps_set (i := 2) scSaid.nd rfl (.inl rfl) pe_non) (pss_cons (ps_set (i := 3) scSaid.nd rfl (.inl rfl) pe_str)
      (pss_cons (ps_tryG (i := 4) (CL := fun cls => PySem.W.exmOne K cls (.ref (He.ga K "PathError"))) (tb := tTry K) (ts := fun a cls d => tAsg (tVar 4) (gName 2)) (Wout := fun _ _ _ _ => False) rfl rfl rfl scSaid.nd rfl rfl (cl_one ⟨rfl, by decide, .inl C.gP⟩) takes0
        (fun W pn xe tk _ => pss_one (ps_set (i := 3) scSaid.nd rfl (.inl rfl) (by exact pe_ifExp (pt_cmpR op_eq (pv 0) pe_int (nomark _)) (pe_callS GN hr rfl gN FN.kp bN (fun σ => passAt tk σ) (pa_cons (pv 1) pa_nil)) (pe_callS GD hr rfl gD FD.kp bD (fun σ => passAt tk σ) (pa_cons (pv 1) pa_nil)))))
        (fun a oe cls d pn hz hf => pss_one (ps_set (i := 2) scSaid.nd rfl (.inl rfl) (pv 4))))
      (pss_cons (ps_if (pt_cmp (pc_isN (pv 2))) (pss_one (ps_ret (pe_ifExp (pt_cmp (pc_isN (pv 3))) pe_str pe_str))) pss_nil)
      (pss_cons (ps_if (pt_val (pe_callB call_isXT rfl B.i boot_isinstance (pa_cons (pv 2) (pa_cons (pe_tup (pa_cons (pe_glob (v := .ref (He.ga K "BadBook")) rfl (C.gO "BadBook" (by decide +kernel)) rfl) (pa_cons (pe_glob (v := .ref (He.ga K "BadLegs")) rfl (C.gO "BadLegs" (by decide +kernel)) rfl) (pa_cons (pe_glob (v := .ref (He.ga K "BadLine")) rfl (C.gO "BadLine" (by decide +kernel)) rfl) (pa_cons (pe_glob (v := .ref (He.ga K "BadPlan")) rfl (C.gO "BadPlan" (by decide +kernel)) rfl) (pa_cons (pe_glob (v := .ref (He.ga K "BadSection")) rfl (C.gO "BadSection" (by decide +kernel)) rfl) (pa_cons (pe_glob (v := .ref (He.ga K "BadText")) rfl (C.gO "BadText" (by decide +kernel)) rfl) (pa_cons (pe_glob (v := .ref (He.ga K "BadThing")) rfl (C.gO "BadThing" (by decide +kernel)) rfl) (pa_cons (pe_glob (v := .ref (He.ga K "SecondBook")) rfl (C.gO "SecondBook" (by decide +kernel)) rfl) pa_nil))))))))) pa_nil)))) (pss_one (ps_ret pe_str)) pss_nil)
      (pss_one (ps_ret (pe_op op_add_str (pe_ix ix_list (pe_lst (pa_cons pe_str (pa_cons pe_str pa_nil))) (pe_callTy call_int1 rfl B.n PyProof.Rows.boot_int (pa_cons (pe_callB call_isX rfl B.i boot_isinstance (pa_cons (pv 2) (pa_cons (pe_glob (v := .ref (cN K)) rfl C.gN rfl) pa_nil))) pa_nil)) (fun _ _ => rfl))
        (pe_ix ix_list (pe_lst (pa_cons pe_str (pa_cons pe_str pa_nil))) (pe_callTy call_int1 rfl B.n PyProof.Rows.boot_int (pa_cons (pe_callB call_isX rfl B.i boot_isinstance (pa_cons (pv 2) (pa_cons (pe_glob (v := .ref (cD K)) rfl C.gD rfl) pa_nil))) pa_nil)) (fun _ _ => rfl)))))))))), ?_⟩
    dsimp only [cxOf]
    have isx : ∀ us : List Value, Vals (oth.map fun x => V.ref (He.ga K x)) us → us = oth.map fun x => Value.ref (He.ga K x) := fun us hv => by
      have : Vals (oth.map fun x => V.ref (He.ga K x)) (oth.map fun x => Value.ref (He.ga K x)) := .cons rfl (.cons rfl (.cons rfl (.cons rfl (.cons rfl (.cons rfl (.cons rfl (.cons rfl .nil)))))))
      cases hv with
      | cons a1 r => cases r with
        | cons a2 r => cases r with
          | cons a3 r => cases r with
            | cons a4 r => cases r with
              | cons a5 r => cases r with
                | cons a6 r => cases r with
                  | cons a7 r => cases r with
                    | cons a8 r =>
                      cases r
                      rw [show _ = _ from a1, show _ = _ from a2, show _ = _ from a3, show _ = _ from a4, show _ = _ from a5, show _ = _ from a6, show _ = _ from a7, show _ = _ from a8]
                      rfl
    refine ⟨_, rfl, rfl, _, rfl, ?_⟩
    by_cases c : way = 0
    · rw [decide_eq_true (congrArg V.int c)]
      refine iteT ⟨_, rfl, x, T, rfl, hk, hz, fun e H1 s1 => ?_, fun e H1 s1 => ?_⟩
      · have qq := q H1 s1
        rw [show saidT way x = "none" by unfold saidT; rw [if_pos c, if_pos e]] at qq
        exact ⟨_, rfl, true, rfl, iteT ⟨_, rfl, true, rfl, iteT qq⟩⟩
      · refine ⟨true, C.mN, fun _ a na => ⟨_, rfl, fun na2 => ?_⟩, fun z => nomatch z⟩
        have s2 := s1.trans (same_upd na (o := exk a (.ref (cN K)) none))
        have ex : ExI (upd H1 a (exk a (.ref (cN K)) none)) a (cN K) none := .inr upd_same
        generalize upd H1 a (exk a (.ref (cN K)) none) = H2 at s2 ex ⊢
        refine ⟨_, rfl, false, rfl, iteF ⟨_, rfl, (by show 8 ≤ sizeLine; decide), fun tp ntp => ?_⟩⟩
        obtain ⟨s3, etp⟩ := nxo (o := .tup (oth.map fun x => V.ref (He.ga K x))) ntp
        have e3 := ex.same s3
        refine ⟨a, cN K, tp, none, _, _, _, _, false, rfl, e3, C.tN, .of etp, isx, C.oN, false, rfl, iteF ⟨(by show 2 ≤ sizeLine; decide), fun l1 k1 => ?_⟩⟩
        obtain ⟨s4, el1⟩ := nxo (o := .lst [.str "", .str "name"]) k1
        have e4 := e3.same s4
        refine ⟨_, rfl, a, cN K, none, _, _, .ref (cN K), .ref (cN K), true, rfl, e4, C.tN, rfl, fun u r => r, C.nn, .inr ⟨true, rfl, l1, _, _, _, rfl, rfl, .of el1, rfl, (by show 2 ≤ sizeLine; decide), fun l2 k2 => ?_⟩⟩
        obtain ⟨s5, el2⟩ := nxo (o := .lst [.str "", .str "day"]) k2
        refine ⟨_, rfl, a, cN K, none, _, _, .ref (cD K), .ref (cD K), false, rfl, e4.same s5, C.tN, rfl, fun u r => r, C.nd, .inr ⟨false, rfl, l2, _, _, _, rfl, rfl, .of el2, rfl, _, _, rfl, rfl, (by decide +kernel), ?_⟩⟩
        have qq := q _ (s2.trans (s3.trans (s4.trans s5)))
        rw [show saidT way x = "name" by unfold saidT; rw [if_pos c, e]; rfl] at qq
        exact qq
    · rw [decide_eq_false (fun z => c (V.int.inj z))]
      refine iteF ⟨_, rfl, x, T, rfl, hk, hz, fun e H1 s1 => ?_, fun e H1 s1 => ?_⟩
      · have qq := q H1 s1
        rw [show saidT way x = "none" by unfold saidT; rw [if_neg c, if_pos e]] at qq
        exact ⟨_, rfl, true, rfl, iteT ⟨_, rfl, true, rfl, iteT qq⟩⟩
      · refine ⟨true, C.mD, fun _ a na => ⟨_, rfl, fun na2 => ?_⟩, fun z => nomatch z⟩
        have s2 := s1.trans (same_upd na (o := exk a (.ref (cD K)) none))
        have ex : ExI (upd H1 a (exk a (.ref (cD K)) none)) a (cD K) none := .inr upd_same
        generalize upd H1 a (exk a (.ref (cD K)) none) = H2 at s2 ex ⊢
        refine ⟨_, rfl, false, rfl, iteF ⟨_, rfl, (by show 8 ≤ sizeLine; decide), fun tp ntp => ?_⟩⟩
        obtain ⟨s3, etp⟩ := nxo (o := .tup (oth.map fun x => V.ref (He.ga K x))) ntp
        have e3 := ex.same s3
        refine ⟨a, cD K, tp, none, _, _, _, _, false, rfl, e3, C.tD, .of etp, isx, C.oD, false, rfl, iteF ⟨(by show 2 ≤ sizeLine; decide), fun l1 k1 => ?_⟩⟩
        obtain ⟨s4, el1⟩ := nxo (o := .lst [.str "", .str "name"]) k1
        have e4 := e3.same s4
        refine ⟨_, rfl, a, cD K, none, _, _, .ref (cN K), .ref (cN K), false, rfl, e4, C.tD, rfl, fun u r => r, C.dn, .inr ⟨false, rfl, l1, _, _, _, rfl, rfl, .of el1, rfl, (by show 2 ≤ sizeLine; decide), fun l2 k2 => ?_⟩⟩
        obtain ⟨s5, el2⟩ := nxo (o := .lst [.str "", .str "day"]) k2
        refine ⟨_, rfl, a, cD K, none, _, _, .ref (cD K), .ref (cD K), true, rfl, e4.same s5, C.tD, rfl, fun u r => r, C.dd, .inr ⟨true, rfl, l2, _, _, _, rfl, rfl, .of el2, rfl, _, _, rfl, rfl, (by decide +kernel), ?_⟩⟩
        have qq := q _ (s2.trans (s3.trans (s4.trans s5)))
        rw [show saidT way x = "day" by unfold saidT; rw [if_neg c, show wholeV x 0 9999 = false from e]; rfl] at qq
        exact qq
end
end Pb

namespace Pb
open PySem PySem.Spec PyProof.Rows L2
/-! ### number_in, _law_read, _law_same -/
theorem asg_go {te : TE} {g : TG} {tS : TS} {D : Ends} {σ : L2.St} {H : Hp} (h : te σ H fun v H1 => g v σ H1 fun σ2 H2 => tS D σ2 H2) : tSeq (tAsg te g) tS D σ H := h
def fig : Str := "0123456789"
def figL (z : Str) : Bool := z.cps.toList.all fun c => decide (c ∈ fig.cps.toList)
def numOk (z : Str) : Bool := decide (1 ≤ z.length) && (decide (z.length ≤ 5) && (figL z && !(decide (z.cps.toList.head? = some 48) && decide (1 < z.length))))
def numN (z : Str) : Nat := NumText.digitsVal z.cps.toList
def numV (z : Str) (m : Int) : V := if numOk z = true ∧ (numN z : Int) ≤ m then .int (numN z) else .non
theorem fig_digit {c : Nat} (h : c ∈ fig.cps.toList) : 48 ≤ c ∧ c ≤ 57 := by
  have : fig.cps.toList = [48, 49, 50, 51, 52, 53, 54, 55, 56, 57] := by decide +kernel
  rw [this] at h
  simp only [List.mem_cons, List.not_mem_nil, or_false] at h
  omega
theorem fig_occ : ∀ c, 48 ≤ c → c ≤ 57 → Builtin.Str.occurrences fig ⟨#[c]⟩ 0 fig.length 1 = [c - 48] := by
  intro c h1 h2
  have : c = 48 ∨ c = 49 ∨ c = 50 ∨ c = 51 ∨ c = 52 ∨ c = 53 ∨ c = 54 ∨ c = 55 ∨ c = 56 ∨ c = 57 := by omega
  rcases this with e | e | e | e | e | e | e | e | e | e <;> (subst e; decide +kernel)
theorem figL_all {z : Str} (h : figL z = true) : NumText.AllDigits z.cps.toList := fun c hc => fig_digit (of_decide_eq_true (List.all_eq_true.mp h c hc))
theorem len_pos_head {z : Str} (h : 1 ≤ z.length) : ∃ c, z.cps.toList.head? = some c ∧ atI z.cps.toList 0 = some c := by
  have hl : z.cps.toList.length = z.length := Array.length_toList
  cases e : z.cps.toList with
  | nil =>
    rw [e] at hl
    exact absurd h (by rw [← hl]; decide)
  | cons c r => exact ⟨c, rfl, atI_nat (xs := c :: r) (j := 0) rfl⟩
theorem sign_zero {c : Nat} : decide (V.str ⟨#[c]⟩ = V.str "0") = decide (some c = some 48) := by
  by_cases h : c = 48
  · subst h
    rw [decide_eq_true rfl]
    decide +kernel
  · rw [decide_eq_false (fun e => h (Option.some.inj e))]
    refine decide_eq_false fun e => h ?_
    have e1 := V.str.inj e
    have e2 : (⟨#[c]⟩ : Str).cps.toList = [48] := by
      rw [e1]
      decide +kernel
    simpa using e2
theorem str_zero {z : Str} {c : Nat} (h : z.cps.toList.head? = some c) (hc : c = 48) : decide (V.str z = V.str "0") = !decide (1 < z.length) := by
  have hl : z.cps.toList.length = z.length := Array.length_toList
  subst hc
  by_cases h1 : 1 < z.length
  · rw [decide_eq_true h1]
    refine decide_eq_false fun e => ?_
    have e1 := V.str.inj e
    rw [e1] at h1
    exact absurd h1 (by decide +kernel)
  · rw [decide_eq_false h1]
    refine decide_eq_true ?_
    cases e : z.cps.toList with
    | nil =>
      rw [e] at h
      cases h
    | cons a r =>
      rw [e] at h hl
      cases h
      have : r = [] := by
        cases r with
        | nil => rfl
        | cons b r => exact absurd (show 1 < z.length by rw [← hl]; simp) h1
      subst this
      have e2 : z = ⟨#[48]⟩ := by
        cases z with
        | mk a =>
          have : a = #[48] := by
            rw [← Array.toList_inj]
            exact e
          rw [this]
      rw [e2]
      rfl
theorem str_nil {z : Str} : decide (V.str z = V.str "") = !decide (1 ≤ z.length) := by
  by_cases h : 1 ≤ z.length
  · rw [decide_eq_true h]
    refine decide_eq_false fun e => ?_
    rw [V.str.inj e] at h
    exact absurd h (by decide +kernel)
  · rw [decide_eq_false h]
    refine decide_eq_true ?_
    cases z with
    | mk a =>
      have : a = #[] := Array.eq_empty_of_size_eq_zero (by
        have : ¬ 1 ≤ a.size := h
        omega)
      rw [this]
      rfl
abbrev sNum : Stmt := top 22
abbrev sRead : Stmt := top 33
abbrev sSame : Stmt := top 36
theorem scNum : FnScope ["word", "most", "number", "sign"] ["word", "most"] (defScope sNum) := ⟨rfl, rfl, rfl, by decide +kernel, rfl, by decide +kernel, by decide +kernel⟩
theorem scRead : FnScope ["_law_word", "_law_most", "_law_sign_here", "_law_bad", "_law_found"] ["_law_word", "_law_most"] (defScope sRead) := ⟨rfl, rfl, rfl, by decide +kernel, rfl, by decide +kernel, by decide +kernel⟩
theorem scSame : FnScope ["_law_found", "_law_due"] ["_law_found", "_law_due"] (defScope sSame) := ⟨rfl, rfl, rfl, by decide +kernel, rfl, by decide +kernel, by decide +kernel⟩
def spNum : Sp := fun vs H Q _ => ∃ (z : Str) (m : Int), vs = [.str z, .int m] ∧ z.cps.size < sizeLine ∧ ∀ H', Same H H' → Q (numV z m) H'
def spRead : Sp := fun vs H Q _ => ∃ (z : Str) (m : Int), vs = [.str z, .int m] ∧ Pl z ∧ ∀ H', Same H H' → Q (numV z m) H'
def spSame : Sp := fun vs H Q _ => ∃ (z : Str) (m : Int), vs = [numV z m, numV z m] ∧ Q (.bl true) H
section
variable {P : Program} {w : World} {K : PySem.W.Frag} {mg : Str → Option Value} {base : Heap} {f : Addr} {fd : FuncData} {dvs : List V}
theorem ok_num (F : FnD K "number_in" sNum dvs f fd) (B : B0 mg) {t1 t2 : Tok} (gF : mg "FIGURES" = some (.str fig t1)) (gM : mg "MOST_FIGURES" = some (.int 5 t2)) : FnOk P w K mg base CX0 1 f fd ["word", "most"] spNum := by
  refine F.ok scNum (fun vs H Q E h => ?_) (fun cdv A outer s H vs Q E hr h => ?_)
  · obtain ⟨z, m, rfl, _⟩ := h
    rfl
  · obtain ⟨z, m, rfl, zl, q⟩ := h
    refine ⟨_, PSs.nox (pss_cons (ps_if (PW.pt (pw_or (pt_not (pt_chain op_le op_le pe_int (pe_callB call_len rfl B.l PySem.boot_len (pa_cons (pv 0) pa_nil)) (pe_glob (v := .int 5) rfl gM ⟨_, rfl⟩)))
        (pw_or1 (pt_not (pt_val (pe_callB (cr_all rfl) rfl B.a (by decide +kernel) (pa_cons (pe_lc (own := [("sign", 3)]) (g := gName 3) (tt := tYes) (te := tOp rInS (tVar 3) (tC (.str fig))) rfl scNum.nd (pi_str (pv 0)) (blkOk_by (N := ["word", "most", "number", "sign"]) (sc := defScope sNum) (by decide +kernel))
        (fun _ _ _ _ _ => pg_name (i := 3) scNum.nd rfl (.inl rfl)) (fun _ _ _ _ _ => pts_nil) (fun _ _ _ _ _ => pe_cmpR op_in_sign (pv 3) (pe_glob rfl gF ⟨_, rfl⟩) rfl)) pa_nil))))))) (pss_one (ps_ret pe_non)) pss_nil)
      (pss_cons (ps_if (PW.pt (pw_and (pt_cmpR op_eq (pe_ix ix_str (pv 0) pe_int (fun _ _ => rfl)) pe_str (nomark _)) (pw_and1 (pt_cmpR op_gt (pe_callB call_len rfl B.l PySem.boot_len (pa_cons (pv 0) pa_nil)) pe_int (nomark _))))) (pss_one (ps_ret pe_non)) pss_nil)
      (pss_cons (ps_set (i := 2) scNum.nd rfl (.inl rfl) (pe_callTy call_int_str rfl B.n PyProof.Rows.boot_int (pa_cons (pv 0) pa_nil)))
      (pss_one (ps_ret (pe_ifExp (pt_cmpR op_le (pv 2) (pv 1) (nomark _)) (pv 2) pe_non)))))), ?_⟩
    dsimp only [cxOf]
    have no : ∀ {H'}, Same H H' → numOk z = false → Q .non H' := fun sm e => by
      have qq := q _ sm
      rw [show numV z m = .non by unfold numV; rw [if_neg (by rw [e]; simp)]] at qq
      exact qq
    refine ⟨_, rfl, .str z, z.length, rfl, ⟨Nat.le_of_lt zl, rfl⟩, _, _, rfl, rfl, _, rfl, ?_⟩
    by_cases c1 : (1 : Int) ≤ z.length
    · rw [decide_eq_true c1]
      refine iteT ⟨_, _, rfl, rfl, _, rfl, ?_⟩
      by_cases c2 : (z.length : Int) ≤ 5
      · rw [decide_eq_true c2]
        have d1 : decide (1 ≤ z.length) = true := decide_eq_true (by omega)
        have d2 : decide (z.length ≤ 5) = true := decide_eq_true (by omega)
        refine iteF ?_
        dsimp only [tNot, tB, tCB, tCons, tNil]
        refine lc_in (σ := [some (.str z), some (.int m), none, none]) (fun _ _ _ _ _ q => q) (Nat.lt_of_sub_eq_succ rfl) rfl zl fun H' p sm np ep => ⟨p, _, rfl, .of ep, _, rfl, ?_⟩
        rw [all_id]
        show ite _ _ _
        have ef : (z.cps.toList.all fun c => decide (c ∈ fig.cps.toList)) = figL z := rfl
        rw [ef]
        cases e3 : figL z with
        | false => exact iteT (no sm (by unfold numOk; rw [d1, d2, e3]; rfl))
        | true =>
          refine iteF ?_
          obtain ⟨c, hc, hat⟩ := len_pos_head (z := z) (by omega)
          refine ⟨_, rfl, z, 0, c, rfl, rfl, Nat.le_of_lt zl, hat, rfl, _, rfl, ?_⟩
          rw [sign_zero]
          have tail : numOk z = true → (tSeq (tAsg (tCB (fun xs H Q => ∃ a n, xs = [.str a] ∧ intText? a = some n ∧ a.length ≤ 640 ∧ Q (.int n) H) (tCons (tVar 0) tNil)) (gName 2)) (tRet (tIf (tTest (tOp (rI0 fun i j => V.bl (decide (i ≤ j))) (tVar 2) (tVar 1))) (tVar 2) (tC V.non)))) { nx := fun _ H' => Q V.non H', rt := Q } [some (.str z), some (.int m), none, none] H' := fun eo => by
            refine ⟨_, rfl, z, _, rfl, intText_digits (figL_all e3) (by
              intro e
              rw [e] at hc
              cases hc) (by omega), (by show z.length ≤ 640; omega), ?_⟩
            refine ⟨_, rfl, _, rfl, _, _, rfl, rfl, _, rfl, ?_⟩
            have qq := q _ sm
            unfold numV at qq
            rw [eo] at qq
            by_cases c4 : (numN z : Int) ≤ m
            · rw [if_pos ⟨rfl, c4⟩] at qq
              rw [show decide (((NumText.digitsVal z.cps.toList : Nat) : Int) ≤ m) = true from decide_eq_true c4]
              exact iteT ⟨_, rfl, qq⟩
            · rw [if_neg (fun y => c4 y.2)] at qq
              rw [show decide (((NumText.digitsVal z.cps.toList : Nat) : Int) ≤ m) = false from decide_eq_false c4]
              exact iteF qq
          by_cases c5 : c = 48
          · subst c5
            rw [decide_eq_true rfl]
            refine iteT ⟨_, rfl, .str z, z.length, rfl, ⟨Nat.le_of_lt zl, rfl⟩, _, _, rfl, rfl, _, rfl, ?_⟩
            by_cases c6 : (z.length : Int) > 1
            · rw [decide_eq_true c6]
              refine iteT (no sm ?_)
              unfold numOk
              rw [d1, d2, e3, hc, decide_eq_true rfl, decide_eq_true (show 1 < z.length by omega)]
              rfl
            · rw [decide_eq_false c6]
              refine iteF (tail ?_)
              unfold numOk
              rw [d1, d2, e3, hc, decide_eq_true rfl, decide_eq_false (show ¬ 1 < z.length by omega)]
              rfl
          · have c5' : ¬ (some c = some 48) := fun e => c5 (Option.some.inj e)
            rw [decide_eq_false c5']
            refine iteF (iteF (tail ?_))
            unfold numOk
            rw [d1, d2, e3, hc, decide_eq_false c5']
            rfl
      · rw [decide_eq_false c2]
        refine iteT (no (Same.refl _) ?_)
        unfold numOk
        rw [decide_eq_false (show ¬ z.length ≤ 5 by omega), Bool.false_and, Bool.and_false]
    · rw [decide_eq_false c1]
      refine iteF ⟨_, rfl, iteT (no (Same.refl _) ?_)⟩
      unfold numOk
      rw [decide_eq_false (show ¬ 1 ≤ z.length by omega)]
      rfl
theorem ok_read (F : FnD K "_law_read" sRead [] f fd) (B : B0 mg) : FnOk P w K mg base CX0 1 f fd ["_law_word", "_law_most"] spRead := by
  refine F.ok scRead (fun vs H Q E h => ?_) (fun cdv A outer s H vs Q E hr h => ?_)
  · obtain ⟨z, m, rfl, _⟩ := h
    rfl
  · obtain ⟨z, m, rfl, pl, q⟩ := h
    refine ⟨_, PSs.nox (pss_cons (ps_setLc (i := 3) (own := [("_law_sign_here", 2)]) (g := gName 2) (tt := tB (tOp rNinS (tVar 2) (tC (.str fig)))) (te := tVar 2) rfl scRead.nd rfl rfl (sw_true rfl rfl rfl (by decide +kernel)) (pi_str (pv 0)) (blkOk_by (N := ["_law_word", "_law_most", "_law_sign_here", "_law_bad", "_law_found"]) (sc := defScope sRead) (by decide +kernel))
          (fun _ _ _ _ _ => pg_name (i := 2) scRead.nd rfl (.inl rfl)) (fun _ _ _ _ _ => pts_one (pt_cmpR op_notIn_sign (pv 2) pe_str rfl)) (fun _ _ _ _ _ => pv 2))
      (pss_cons (ps_if (PW.pt (pw_or (pt_cmpR op_eq (pv 0) pe_str (nomark _)) (pw_or (pt_cmpR op_gt (pe_callB call_len rfl B.l PySem.boot_len (pa_cons (pv 0) pa_nil)) pe_int (nomark _)) (pw_or (pt_cmpR (op_neD hr.units) (pv 3) (pe_lst pa_nil) (nomark _))
        (pw_or1 (PW.pt (pw_and (pt_cmpR op_eq (pe_ix ix_str (pv 0) pe_int (fun _ _ => rfl)) pe_str (nomark _)) (pw_and1 (pt_cmpR op_ne (pv 0) pe_str (nomark _))))))))))  (pss_one (ps_ret pe_non)) pss_nil)
      (pss_cons (ps_set (i := 4) scRead.nd rfl (.inl rfl) pe_int)
      (pss_cons (ps_for PassesOwn.never rfl (pi_str (pv 0)) (pg_name (i := 2) scRead.nd rfl (.inl rfl))
        (pss_one (ps_set (i := 4) scRead.nd rfl (.inl rfl) (pe_op op_add (pe_op op_mul pe_int (pv 4)) (pe_bm PySem.F.plainAttrs_str PySem.F.slot_str_index PySem.F.type_str_index mt_sindex pe_str (pa_cons (pv 2) pa_nil))))))
      (pss_one (ps_ret (pe_ifExp (pt_cmpR op_gt (pv 4) (pv 1) (nomark _)) pe_non (pv 4)))))))), ?_⟩
    dsimp only [cxOf]
    have no : ∀ {H'}, Same H H' → numOk z = false → Q .non H' := fun sm e => by
      have qq := q _ sm
      rw [show numV z m = .non by unfold numV; rw [if_neg (by rw [e]; simp)]] at qq
      exact qq
    refine asg_go (lc_nin (σ := [some (.str z), some (.int m), none, none, none]) (i := 2) (j := 0) (L := tC (.str fig)) (fun _ _ _ _ _ q => q) (Nat.lt_of_sub_eq_succ rfl) rfl pl.small fun H1 p s1 np ep => ?_)
    refine ⟨_, rfl, rfl, _, rfl, ?_⟩
    rw [str_nil]
    by_cases c1 : 1 ≤ z.length
    · rw [decide_eq_true c1]
      refine iteF ⟨_, rfl, .str z, z.length, rfl, ⟨Nat.le_of_lt pl.small, rfl⟩, _, _, rfl, rfl, _, rfl, ?_⟩
      by_cases c2 : z.length ≤ 5
      · rw [decide_eq_false (show ¬ (5 : Int) < z.length by omega)]
        refine iteF ⟨_, rfl, Nat.zero_le _, fun p2 np2 => ?_⟩
        have d1 : decide (1 ≤ z.length) = true := decide_eq_true (by omega)
        have d2 : decide (z.length ≤ 5) = true := decide_eq_true (by omega)
        have e2 : ((badL z fig).map fun c => V.str ⟨#[c]⟩) = ((badL z fig).map fun c => (⟨#[c]⟩ : Str)).map V.str := by rw [List.map_map]; rfl
        rw [e2] at ep
        have hb : ∀ y ∈ (badL z fig).map (fun c => (⟨#[c]⟩ : Str)), ∀ c ∈ y.cps.toList, c < 128 := fun y hy c hc => by
          obtain ⟨d, hd, ed⟩ := List.mem_map.mp hy
          rw [← ed] at hc
          have ec : c = d := by simpa using hc
          rw [ec]
          exact pl.asc d (List.mem_filter.mp hd).1
        have s2 := s1.trans (same_upd np2 (o := .lst []))
        refine ⟨_, .list [], dp_strs _ (same_upd np2 _ _ ep), .lst (.of upd_same) .nil, shp_strs hb, rfl, _, rfl, ?_⟩
        have ev : PyData.eqv (.list (((badL z fig).map fun c => (⟨#[c]⟩ : Str)).map .str)) (.list []) = figL z := by
          cases e : badL z fig with
          | nil => exact ((bad_nil z fig).mp e).symm
          | cons c r =>
            show false = _
            cases y : figL z with
            | false => rfl
            | true =>
              rw [(bad_nil z fig).mpr y] at e
              cases e
        rw [ev]
        generalize upd H1 p2 (.lst []) = H2 at s2 ⊢
        cases e3 : figL z with
        | false => exact iteT (no s2 (by unfold numOk; rw [d1, d2, e3]; rfl))
        | true =>
          refine iteF ?_
          obtain ⟨c, hc, hat⟩ := len_pos_head (z := z) c1
          have tail : numOk z = true → (tSeq (tAsg (tC (.int 0)) (gName 4)) (tSeq (tFor (iStr (tVar 0)) (gName 2) (tAsg (tOp (rI0 fun i j => .int (i + j)) (tOp (rI CMul fun i j => .int (i * j)) (tC (.int 10)) (tVar 4)) (tBM K "str" (fun x xs H Q => ∃ a b i rest, x = .str a ∧ xs = [.str b] ∧ Builtin.Str.occurrences a b 0 a.length 1 = i :: rest ∧ Q (.int (i : Nat)) H) (tC (.str fig)) (tCons (tVar 2) tNil))) (gName 4)))
              (tRet (tIf (tTest (tOp (rI0 fun i j => V.bl (decide (j < i))) (tVar 4) (tVar 1))) (tC .non) (tVar 4))))) { nx := fun _ H' => Q V.non H', rt := Q } [some (.str z), some (.int m), none, some (.ref p), none] H2 := fun eo => by
            refine ⟨_, rfl, z, rfl, for_it walk_str (fun k σ H' => H' = H2 ∧ ∃ y, σ = [some (.str z), some (.int m), y, some (.ref p), some (.int (NumText.digitsVal (z.cps.toList.take k)))]) ⟨rfl, none, rfl⟩ (fun _ _ _ _ _ => trivial) (fun k x σ Ha Hb hk pv y => ?_) fun σ Ha pv => ?_⟩
            · obtain ⟨rfl, y1, rfl⟩ := pv
              obtain ⟨rfl, c, gc, rfl⟩ := y
              have hd := figL_all e3 c (List.mem_of_getElem? (arr_get gc))
              refine ⟨_, rfl, _, _, rfl, rfl, .inl ⟨by decide, by decide⟩, rfl, _, rfl, fig, _, _, _, rfl, rfl, fig_occ c hd.1 hd.2, _, _, rfl, rfl, rfl, some (.str ⟨#[c]⟩), ?_⟩
              rw [List.take_add_one, arr_get gc]
              show _ = [some (V.str z), some (V.int m), _, some (V.ref p), some (V.int ((NumText.digitsVal (z.cps.toList.take k ++ [c]) : Nat) : Int))]
              rw [NumText.digitsVal_snoc]
              have e : (((NumText.digitsVal (z.cps.toList.take k) * 10 + (c - 48) : Nat)) : Int) = 10 * ((NumText.digitsVal (z.cps.toList.take k) : Nat) : Int) + ((c - 48 : Nat) : Int) := by omega
              rw [e]
              rfl
            · obtain ⟨rfl, y1, rfl⟩ := pv
              rw [show z.cps.size = z.cps.toList.length from Array.length_toList.symm, List.take_length]
              refine ⟨_, rfl, _, rfl, _, _, rfl, rfl, _, rfl, ?_⟩
              have qq := q _ s2
              unfold numV at qq
              rw [eo] at qq
              by_cases c4 : (numN z : Int) ≤ m
              · rw [if_pos ⟨rfl, c4⟩] at qq
                rw [show decide (m < ((NumText.digitsVal z.cps.toList : Nat) : Int)) = false from decide_eq_false (Int.not_lt.mpr c4)]
                exact iteF ⟨_, rfl, qq⟩
              · rw [if_neg (fun y => c4 y.2)] at qq
                rw [show decide (m < ((NumText.digitsVal z.cps.toList : Nat) : Int)) = true from decide_eq_true (Int.not_le.mp c4)]
                exact iteT qq
          refine ⟨_, rfl, z, 0, c, rfl, rfl, Nat.le_of_lt pl.small, hat, rfl, _, rfl, ?_⟩
          rw [sign_zero]
          by_cases c5 : c = 48
          · subst c5
            rw [decide_eq_true rfl]
            refine iteT ⟨_, rfl, rfl, _, rfl, ?_⟩
            rw [str_zero hc rfl, Bool.not_not]
            by_cases c6 : 1 < z.length
            · rw [decide_eq_true c6]
              refine iteT (no s2 ?_)
              unfold numOk
              rw [d1, d2, e3, hc, decide_eq_true rfl, decide_eq_true c6]
              rfl
            · rw [decide_eq_false c6]
              refine iteF (tail ?_)
              unfold numOk
              rw [d1, d2, e3, hc, decide_eq_true rfl, decide_eq_false c6]
              rfl
          · have c5' : ¬ (some c = some 48) := fun e => c5 (Option.some.inj e)
            rw [decide_eq_false c5']
            refine iteF (iteF (tail ?_))
            unfold numOk
            rw [d1, d2, e3, hc, decide_eq_false c5']
            rfl
      · rw [decide_eq_true (show (5 : Int) < z.length by omega)]
        refine iteT (iteT (no s1 ?_))
        unfold numOk
        rw [decide_eq_false c2, Bool.false_and, Bool.and_false]
    · rw [decide_eq_false c1]
      refine iteT (iteT (no s1 ?_))
      unfold numOk
      rw [decide_eq_false c1]
      rfl
theorem ok_same (F : FnD K "_law_same" sSame [] f fd) (B : B0 mg) : FnOk P w K mg base CX0 1 f fd ["_law_found", "_law_due"] spSame := by
  refine F.ok scSame (fun vs H Q E h => ?_) (fun cdv A outer s H vs Q E hr h => ?_)
  · obtain ⟨z, m, rfl, _⟩ := h
    rfl
  · obtain ⟨z, m, rfl, q⟩ := h
    refine ⟨_, PSs.nox (pss_cons (ps_if (pt_cmp (pc_isN (pv 1))) (pss_one (ps_ret (pe_cmp (pc_isN (pv 0))))) pss_nil)
      (pss_one (ps_ret (pe_and (pe_callB call_isi rfl B.i boot_isinstance (pa_cons (pv 0) (pa_cons (pe_bltn (v := .ty "int") rfl B.n PyProof.Rows.boot_int rfl) pa_nil)))
      (pe_and (pe_not (pe_callB call_isi rfl B.i boot_isinstance (pa_cons (pv 0) (pa_cons (pe_bltn (v := .ty "bool") rfl B.b (show bootBuiltins "bool" = some (.type "bool") by decide +kernel) rfl) pa_nil)))) (pe_one (pe_cmpR op_eq (pv 0) (pv 1) (nomark _)))))))), ?_⟩
    dsimp only [cxOf]
    unfold numV
    split
    · refine ⟨_, rfl, false, rfl, iteF ⟨_, rfl, .int _, _, _, _, _, rfl, .ty "int", .base (.int _), kit_ty (show kitB "int" "int" = some true by decide +kernel), _, rfl, iteT ⟨_, rfl, .int _, _, _, _, _, rfl, .ty "bool", .base (.int _), kit_ty (show kitB "int" "bool" = some false by decide +kernel), _, rfl, _, rfl, iteT ⟨_, rfl, _, rfl, rfl, ?_⟩⟩⟩⟩
      rw [decide_eq_true rfl]
      exact q
    · exact ⟨_, rfl, true, rfl, iteT ⟨_, rfl, q⟩⟩
end
end Pb

namespace Pb
open PySem PySem.Spec PyProof.Rows L2 TL
/-! ### the rows' words: the mathematics -/
def ofL (l : List Nat) : Str := ⟨l.toArray⟩
theorem ofL_tl (x : Str) : ofL (tl x) = x := by
  cases x with
  | mk a => rfl
theorem tl_ofL (l : List Nat) : tl (ofL l) = l := rfl
def ow (w : List Nat) : List (List Nat) := if w = [] then [] else [w]
def rowW (cur : List (List Nat)) (w : List Nat) : List Nat → List (List Nat)
  | [] => cur ++ ow w
  | c :: r => if c = 32 then rowW (cur ++ ow w) [] r else rowW cur (w ++ [c]) r
def prt (cur : List (List Nat)) (w : List Nat) : List Nat → List (List (List Nat))
  | [] => [cur ++ ow w]
  | c :: r => if c = 10 then (cur ++ ow w) :: prt [] [] r else if c = 32 then prt (cur ++ ow w) [] r else prt cur (w ++ [c]) r
theorem spl1 (s c : Nat) (acc r : List Nat) : spl [s] 0 acc (c :: r) = if c = s then acc :: spl [s] 0 [] r else spl [s] 0 (acc ++ [c]) r := by
  have e : pre [s] (c :: r) = decide (c = s) := by
    unfold pre
    show ([c] == [s]) = _
    by_cases h : c = s
    · subst h
      simp
    · simp [h]
  by_cases h : c = s
  · rw [if_pos h, spl_hit (by rw [e, decide_eq_true h])]
    rfl
  · rw [if_neg h, spl_miss (by rw [e, decide_eq_false h])]
theorem row_spl : ∀ (row : List Nat) (cur : List (List Nat)) (w : List Nat), cur ++ (spl [32] 0 w row).filter (fun x => !decide (x = [])) = rowW cur w row
  | [], cur, w => by
    rw [spl_nil]
    unfold rowW ow
    by_cases h : w = []
    · subst h
      rfl
    · rw [if_neg h]
      simp [List.filter_cons, h]
  | c :: r, cur, w => by
    rw [spl1]
    unfold rowW
    by_cases h : c = 32
    · rw [if_pos h, if_pos h, ← row_spl r (cur ++ ow w) []]
      unfold ow
      by_cases hw : w = []
      · subst hw
        simp
      · rw [if_neg hw]
        simp [List.filter_cons, hw]
    · rw [if_neg h, if_neg h]
      exact row_spl r cur (w ++ [c])
theorem rows_prt : ∀ (t acc : List Nat) (cur : List (List Nat)) (w : List Nat), (∀ row, rowW [] [] (acc ++ row) = rowW cur w row) → (spl [10] 0 acc t).map (rowW [] []) = prt cur w t
  | [], acc, cur, w, h => by
    rw [spl_nil]
    have := h []
    rw [List.append_nil] at this
    unfold prt
    show [rowW [] [] acc] = _
    rw [this]
    rfl
  | c :: r, acc, cur, w, h => by
    rw [spl1]
    unfold prt
    by_cases hc : c = 10
    · rw [if_pos hc, if_pos hc]
      have := h []
      rw [List.append_nil] at this
      rw [List.map_cons, this, rows_prt r [] [] [] fun _ => rfl]
      rfl
    · rw [if_neg hc, if_neg hc]
      by_cases h2 : c = 32
      · rw [if_pos h2]
        refine rows_prt r (acc ++ [c]) _ _ fun row => ?_
        rw [List.append_assoc, h]
        show (if c = 32 then _ else _) = _
        rw [if_pos h2]
        rfl
      · rw [if_neg h2]
        refine rows_prt r (acc ++ [c]) _ _ fun row => ?_
        rw [List.append_assoc, h]
        show (if c = 32 then _ else _) = _
        rw [if_neg h2]
        rfl
def rowsN (t : List Nat) : List (List (List Nat)) := prt [] [] t
theorem rowsN_spl (t : List Nat) : (spl [10] 0 [] t).map (fun r => (spl [32] 0 [] r).filter fun x => !decide (x = [])) = rowsN t := by
  rw [rowsN, ← rows_prt t [] [] [] fun _ => rfl]
  refine List.map_congr_left fun r _ => ?_
  rw [← row_spl r [] [], List.nil_append]
theorem prt_end : ∀ (t : List Nat) (cur : List (List Nat)) (w : List Nat), prt cur w (t ++ [10]) = prt cur w t ++ [[]]
  | [], cur, w => rfl
  | c :: r, cur, w => by
    show prt cur w (c :: (r ++ [10])) = prt cur w (c :: r) ++ [[]]
    unfold prt
    split
    · rw [prt_end r]
      rfl
    · split
      · exact prt_end r _ _
      · exact prt_end r _ _
theorem prt_ne : ∀ (t : List Nat) (cur : List (List Nat)) (w : List Nat), prt cur w t ≠ []
  | [], cur, w => by simp [prt]
  | c :: r, cur, w => by
    unfold prt
    split
    · simp
    · split
      · exact prt_ne r _ _
      · exact prt_ne r _ _
/-- all rows' words are of the signs of the text, and no more of them than signs -/
theorem prt_mem : ∀ (t : List Nat) (cur : List (List Nat)) (w : List Nat) {p : Nat → Prop}, (∀ c ∈ t, p c) → (∀ c ∈ w, p c) → (∀ y ∈ cur, ∀ c ∈ y, p c) → ∀ row ∈ prt cur w t, ∀ y ∈ row, ∀ c ∈ y, p c
  | [], cur, w, p, ht, hw, hc, row, hr, y, hy => by
    unfold prt at hr
    rw [List.mem_singleton] at hr
    subst hr
    rcases List.mem_append.mp hy with h | h
    · exact hc y h
    · unfold ow at h
      split at h
      · cases h
      · rw [List.mem_singleton] at h
        subst h
        exact hw
  | c :: r, cur, w, p, ht, hw, hc, row, hr, y, hy => by
    have hr' := fun c hc => ht c (List.mem_cons_of_mem _ hc)
    have ho : ∀ y ∈ cur ++ ow w, ∀ c ∈ y, p c := fun y hy => by
      rcases List.mem_append.mp hy with h | h
      · exact hc y h
      · unfold ow at h
        split at h
        · cases h
        · rw [List.mem_singleton] at h
          subst h
          exact hw
    unfold prt at hr
    split at hr
    · rcases List.mem_cons.mp hr with h | h
      · subst h
        exact ho y hy
      · exact prt_mem r [] [] hr' (fun _ h => nomatch h) (fun _ h => nomatch h) row h y hy
    · split at hr
      · exact prt_mem r _ [] hr' (fun _ h => nomatch h) ho row hr y hy
      · refine prt_mem r cur (w ++ [c]) hr' (fun d hd => ?_) hc row hr y hy
        rcases List.mem_append.mp hd with h | h
        · exact hw d h
        · rw [List.mem_singleton] at h
          subst h
          exact ht d List.mem_cons_self
theorem prt_len : ∀ (t : List Nat) (cur : List (List Nat)) (w : List Nat), (prt cur w t).length ≤ t.length + 1
  | [], cur, w => Nat.le_refl _
  | c :: r, cur, w => by
    unfold prt
    split
    · have := prt_len r [] []
      simp only [List.length_cons]
      omega
    · split
      · have := prt_len r (cur ++ ow w) []
        simp only [List.length_cons]
        omega
      · have := prt_len r cur (w ++ [c])
        simp only [List.length_cons]
        omega
theorem split_ofL (x y : Str) (hy : tl y ≠ []) (hk : y.cps.all (· < 256) = true) : Txt.split x y = (spl (tl y) 0 [] (tl x)).map ofL := by
  have h := split_spl x y hy (kind_ok hk)
  rw [← h, List.map_map]
  have : (ofL ∘ tl) = id := funext fun z => ofL_tl z
  rw [this, List.map_id]
theorem spl_lens : ∀ (s : Nat) (t acc : List Nat), ((spl [s] 0 acc t).length ≤ t.length + 1) ∧ ∀ y ∈ spl [s] 0 acc t, y.length ≤ acc.length + t.length
  | s, [], acc => by
    rw [spl_nil]
    refine ⟨Nat.le_refl _, fun y hy => ?_⟩
    rw [List.mem_singleton] at hy
    subst hy
    simp
  | s, c :: r, acc => by
    rw [spl1]
    split
    · obtain ⟨h1, h2⟩ := spl_lens s r []
      refine ⟨by simp only [List.length_cons]; omega, fun y hy => ?_⟩
      rcases List.mem_cons.mp hy with h | h
      · subst h
        simp
      · have := h2 y h
        simp only [List.length_cons, List.length_nil] at this ⊢
        omega
    · obtain ⟨h1, h2⟩ := spl_lens s r (acc ++ [c])
      refine ⟨by simp only [List.length_cons]; omega, fun y hy => ?_⟩
      have := h2 y hy
      simp only [List.length_append, List.length_cons, List.length_nil] at this ⊢
      omega
/-- a blank behind each a -/
theorem prt_as : ∀ (n : Nat) (cur : List (List Nat)), prt cur [] (List.replicate n [97, 32]).flatten = [cur ++ List.replicate n [97]]
  | 0, cur => by
    simp [prt, ow]
  | n + 1, cur => by
    rw [List.replicate_succ, List.flatten_cons]
    show prt cur [] (97 :: 32 :: (List.replicate n [97, 32]).flatten) = _
    simp only [prt]
    rw [if_neg (by decide), if_neg (by decide), if_neg (by decide), if_pos trivial, prt_as n]
    simp [ow, List.replicate_succ]
end Pb

namespace Pb
open PySem PySem.Spec PyProof.Rows L2 TL
/-! ### rows_of -/
def wV (row : List (List Nat)) : List V := row.map fun y => V.str (ofL y)
/-- rows of words, each a list -/
def RowsAt (H : Hp) (as : List Addr) (rows : List (List (List Nat))) : Prop := as.length = rows.length ∧ ∀ (i : Nat) (a : Addr) (row : List (List Nat)), as[i]? = some a → rows[i]? = some row → H a = some (.lst (wV row))
theorem RowsAt.same {H H' : Hp} {as : List Addr} {rows : List (List (List Nat))} (h : RowsAt H as rows) (s : Same H H') : RowsAt H' as rows := ⟨h.1, fun i a row h1 h2 => s _ _ (h.2 i a row h1 h2)⟩
theorem RowsAt.snoc {H : Hp} {as : List Addr} {rows : List (List (List Nat))} {a : Addr} {row : List (List Nat)} (h : RowsAt H as rows) (e : H a = some (.lst (wV row))) : RowsAt H (as ++ [a]) (rows ++ [row]) := by
  obtain ⟨hl, hr⟩ := h
  refine ⟨by rw [List.length_append, List.length_append, hl]; rfl, fun i b r h1 h2 => ?_⟩
  rw [List.getElem?_append] at h1 h2
  rw [hl] at h1
  by_cases hi : i < rows.length
  · rw [if_pos hi] at h1 h2
    exact hr i b r h1 h2
  · rw [if_neg hi] at h1 h2
    cases hk : i - rows.length with
    | zero =>
      rw [hk] at h1 h2
      cases h1
      cases h2
      exact e
    | succ k =>
      rw [hk] at h1
      cases h1
theorem RowsAt.mem {H : Hp} {as : List Addr} {rows : List (List (List Nat))} {a : Addr} (h : RowsAt H as rows) (ha : a ∈ as) : ∃ row, row ∈ rows ∧ H a = some (.lst (wV row)) := by
  obtain ⟨i, hi⟩ := List.getElem?_of_mem ha
  have hl : i < rows.length := by
    rw [← h.1]
    exact (List.getElem?_eq_some_iff.mp hi).1
  exact ⟨rows[i], List.getElem_mem hl, h.2 i a _ hi (List.getElem?_eq_getElem hl)⟩
theorem RowsAt.upd {H : Hp} {as : List Addr} {rows : List (List (List Nat))} {d : Addr} {o : HO} (h : RowsAt H as rows) (hd : d ∉ as) : RowsAt (upd H d o) as rows := by
  refine ⟨h.1, fun i a row h1 h2 => ?_⟩
  rw [upd_ne (fun e => hd (by rw [← e]; exact List.mem_of_getElem? h1))]
  exact h.2 i a row h1 h2
def spRows : Sp := fun vs H Q _ => ∃ z : Str, vs = [.str z] ∧ z.cps.size ≤ 20000 ∧ ∀ H' r as, Same H H' → H r = none → (∀ a ∈ as, H a = none) → as.Nodup → H' r = some (.lst (as.map V.ref)) → RowsAt H' as (rowsN (tl z)) → Q (.ref r) H'
abbrev sRows : Stmt := top 23
abbrev nRows : List Str := ["text", "row", "word"]
theorem scRows : FnScope nRows ["text"] (defScope sRows) := ⟨rfl, rfl, rfl, by decide +kernel, rfl, by decide +kernel, by decide +kernel⟩
def sc0 : Scope := { kind := .function, names := [], isGenerator := false, isCoroutine := false, more := [] }
theorem blkOk_any {N : List Str} {sc scope : Scope} {own : List (Str × Nat)} (h : blkC N sc0 scope own = true) : BlkOk N sc scope own := by
  have b := blkOk_by h
  exact ⟨b.kind, b.uniq, b.ix, fun y hy e => (by rcases b.free y hy e with z | z <;> exact nomatch z), b.own⟩
def rSplit : V → List V → Hp → VK → Prop := fun x xs H Q => ∃ a b, x = .str a ∧ xs = [.str b] ∧ (b.length == 0) = false ∧ a.length + 2 ≤ sizeLine ∧ rNewStrs (Txt.split a b) H Q
def tTruT (K : PySem.W.Frag) (t : TE) : TT := fun σ H Q => t σ H fun x H' => ∃ k, TruV K x H' k ∧ Q k H'
def neL (l : List (List Nat)) : List (List Nat) := l.filter fun x => !decide (x = [])
theorem split_32 (x : Str) : Txt.split x " " = (spl [32] 0 [] (tl x)).map ofL := split_ofL x " " (by decide +kernel) (by decide +kernel)
theorem split_10 (x : Str) : Txt.split x "\n" = (spl [10] 0 [] (tl x)).map ofL := split_ofL x "\n" (by decide +kernel) (by decide +kernel)
theorem len20k {n : Nat} (h : n ≤ 30000) : n < sizeLine := Nat.lt_of_le_of_lt h (by decide)
theorem lc_words {K : PySem.W.Frag} {z : Str} {l : List Nat} {H : Hp} {Q : VK} (hl : l.length ≤ 20000) (q : ∀ H' D, Same H H' → H D = none → H' D = some (.lst (wV (neL (spl [32] 0 [] l)))) → Q (.ref D) H') :
    tLc (iList K (tM1 rSplit (tVar 1) (tC (.str " ")))) (gName 2) (tTruT K (tVar 2)) (tVar 2) [2] [some (.str z), some (.str (ofL l)), none] H Q := by
  have hll : (ofL l).length = l.length := by show l.toArray.size = _; simp
  refine ⟨_, rfl, ⟨_, rfl⟩, _, " ", rfl, rfl, rfl, (by rw [hll]; exact Nat.le_of_lt (len20k (by omega))), fun p np => ⟨p, rfl, ⟨_, .of upd_same⟩, fun D nD => ?_⟩⟩
  rw [split_32, tl_ofL] at nD ⊢
  obtain ⟨L1, L2'⟩ := spl_lens 32 l []
  generalize spl [32] 0 [] l = ws at nD q L1 L2' ⊢
  obtain ⟨s1, e1⟩ := nxo (o := .lst ((ws.map ofL).map V.str)) np
  generalize upd H p (.lst ((ws.map ofL).map V.str)) = H1 at s1 e1 nD ⊢
  have nD0 : H D = none := by
    cases e : H D with
    | none => rfl
    | some o =>
      rw [s1 _ _ e] at nD
      cases nD
  have pD : p ≠ D := fun e => by
    rw [e] at e1
    rw [e1] at nD
    cases nD
  have wl : ((ws.map ofL).map V.str).length = ws.length := by rw [List.length_map, List.length_map]
  refine lc_it (walk_list (K := K) (a := p) (xs := (ws.map ofL).map V.str)) (fun m H' => Same H1 H' ∧ H' D = some (.lst (wV (neL (ws.take m))))) ⟨same_upd nD, upd_same⟩ (fun m H' _ pv => .of (pv.1 _ _ e1)) (fun m x Ha Hb hm pv y => ?_) fun H' pv => ?_
  · obtain ⟨sm, eD⟩ := pv
    obtain ⟨rfl, gx⟩ := y
    rw [wl] at hm
    rw [List.getElem?_map, List.getElem?_map, List.getElem?_eq_getElem hm] at gx
    have wm : ws[m] ∈ ws := List.getElem_mem hm
    have tk : ws.take (m + 1) = ws.take m ++ [ws[m]] := by
      rw [List.take_add_one, List.getElem?_eq_getElem hm]
      rfl
    generalize ws[m] = w at gx wm tk
    cases gx
    refine ⟨rfl, _, rfl, _, ⟨?_, rfl⟩, ?_⟩
    · show w.toArray.size ≤ sizeLine
      rw [List.size_toArray]
      have := L2' w wm
      exact Nat.le_of_lt (len20k (by simp at this; omega))
    · by_cases hw : w = []
      · subst hw
        refine iteF ⟨sm, ?_⟩
        rw [eD, tk]
        unfold neL
        rw [List.filter_append]
        simp
      · have hn : (((ofL w).length : Int) != 0) = true := by
          cases w with
          | nil => exact absurd rfl hw
          | cons a r =>
            show (((a :: r).toArray.size : Int) != 0) = true
            rw [List.size_toArray]
            simp
            omega
        rw [hn]
        refine iteT ⟨_, rfl, _, eD, ?_, fun b o e => ?_, ?_⟩
        · unfold wV neL
          rw [List.length_map]
          refine Nat.lt_of_le_of_lt (List.length_filter_le _ _) (len20k ?_)
          rw [List.length_take]
          omega
        · rw [upd_ne (ne_of_none e nD)]
          exact sm _ _ e
        · rw [upd_same, tk]
          unfold neL wV
          rw [List.filter_append, List.map_append]
          simp [hw]
  · obtain ⟨sm, eD⟩ := pv
    rw [wl, List.take_length] at eD
    exact q _ _ (s1.trans sm) nD0 eD
end Pb

namespace Pb
open PySem PySem.Spec PyProof.Rows L2 TL
theorem none_of {H H' : Hp} {a : Addr} (s : Same H H') (h : H' a = none) : H a = none := by
  cases e : H a with
  | none => rfl
  | some o =>
    rw [s _ _ e] at h
    cases h
theorem ne_none {H : Hp} {a b : Addr} {o : HO} (h : H a = some o) (n : H b = none) : a ≠ b := fun e => by
  rw [e, n] at h
  cases h
section
variable {P : Program} {w : World} {K : PySem.W.Frag} {mg : Str → Option Value} {base : Heap} {f : Addr} {fd : FuncData}
theorem ok_rows (F : FnD K "rows_of" sRows [] f fd) : FnOk P w K mg base CX0 1 f fd ["text"] spRows := by
  refine F.ok scRows (fun vs H Q E h => ?_) (fun cdv A outer s H vs Q E hr h => ?_)
  · obtain ⟨z, rfl, _⟩ := h
    rfl
  · obtain ⟨z, rfl, zl, q⟩ := h
    refine ⟨tRet (tLc (iList K (tM1 rSplit (tVar 0) (tC (.str "\n")))) (gName 1) tYes (tLc (iList K (tM1 rSplit (tVar 1) (tC (.str " ")))) (gName 2) (tTruT K (tVar 2)) (tVar 2) [2]) [1]),
      PSs.nox (pss_one (ps_ret (pe_lc (own := [("row", 1)]) rfl scRows.nd (pi_list (pe_split (pv 0) pe_str)) (blkOk_by (N := nRows) (sc := defScope sRows) (by decide +kernel)) (fun _ _ _ _ _ => pg_name (i := 1) scRows.nd rfl (.inl rfl)) (fun _ _ _ _ _ => pts_nil)
        (fun _ _ _ _ _ => pe_lc (own := [("word", 2)]) rfl scRows.nd (pi_list (pe_split (pv 1) pe_str)) (blkOk_any (N := nRows) (by decide +kernel)) (fun _ _ _ _ _ => pg_name (i := 2) scRows.nd rfl (.inl rfl)) (fun _ _ _ _ _ => pts_one (pt_truth (pv 2) (by intro _; rfl))) (fun _ _ _ _ _ => pv 2))))), ?_⟩
    have hzl : z.length = (tl z).length := len_tl z
    refine ⟨_, rfl, ⟨_, rfl⟩, z, "\n", rfl, rfl, rfl, Nat.le_of_lt (len20k (by show z.cps.size + 2 ≤ _; omega)), fun p np => ⟨p, rfl, ⟨_, .of upd_same⟩, fun D nD => ?_⟩⟩
    rw [split_10] at nD ⊢
    have tz : (tl z).length ≤ 20000 := by rw [← hzl]; exact zl
    obtain ⟨L1, L2'⟩ := spl_lens 10 (tl z) []
    have hrows := rowsN_spl (tl z)
    generalize spl [10] 0 [] (tl z) = ws at nD L1 L2' hrows ⊢
    obtain ⟨s1, e1⟩ := nxo (o := .lst ((ws.map ofL).map V.str)) np
    generalize upd H p (.lst ((ws.map ofL).map V.str)) = H1 at s1 e1 nD ⊢
    have nD0 : H D = none := none_of s1 nD
    have wl : ((ws.map ofL).map V.str).length = ws.length := by rw [List.length_map, List.length_map]
    refine lc_it (walk_list (K := K) (a := p) (xs := (ws.map ofL).map V.str)) (fun m H' => Same H1 H' ∧ ∃ as : List Addr, (∀ a ∈ as, H1 a = none ∧ a ≠ D) ∧ as.Nodup ∧ H' D = some (.lst (as.map V.ref)) ∧ RowsAt H' as ((ws.take m).map fun r => neL (spl [32] 0 [] r))) ⟨same_upd nD, [], (fun _ h => nomatch h), List.nodup_nil, upd_same, rfl, fun _ _ _ h => nomatch h⟩
      (fun m H' _ pv => .of (pv.1 _ _ e1)) (fun m x Ha Hb hm pv y => ?_) fun H' pv => ?_
    · obtain ⟨sm, as, fr, nd, eD, rw_⟩ := pv
      obtain ⟨rfl, gx⟩ := y
      rw [wl] at hm
      rw [List.getElem?_map, List.getElem?_map, List.getElem?_eq_getElem hm] at gx
      have wm : ws[m] ∈ ws := List.getElem_mem hm
      have tk : ws.take (m + 1) = ws.take m ++ [ws[m]] := by
        rw [List.take_add_one, List.getElem?_eq_getElem hm]
        rfl
      generalize ws[m] = l at gx wm tk
      cases gx
      refine ⟨rfl, ?_⟩
      dsimp only [tYes]
      rw [if_pos rfl]
      refine lc_words (z := z) (by have := L2' l wm; simp at this; omega) fun Hc C sc nC eC => ?_
      have asl : as.length = m := by
        rw [rw_.1, List.length_map, List.length_take]
        omega
      have CD : C ≠ D := (ne_none eD nC).symm
      refine ⟨_, sc _ _ eD, ?_, fun b o e => ?_, as ++ [C], fun a ha => ?_, ?_, ?_, ?_⟩
      · rw [List.length_map, asl]
        exact len20k (by omega)
      · rw [upd_ne (ne_of_none e nD)]
        exact sc _ _ (sm _ _ e)
      · rcases List.mem_append.mp ha with h | h
        · exact fr a h
        · rw [List.mem_singleton] at h
          subst h
          exact ⟨none_of sm nC, CD⟩
      · rw [List.nodup_append]
        refine ⟨nd, by simp, fun a ha b hb => ?_⟩
        rw [List.mem_singleton] at hb
        subst hb
        obtain ⟨row, _, er⟩ := rw_.mem ha
        exact ne_none er nC
      · rw [upd_same, List.map_append]
        rfl
      · rw [tk, List.map_append]
        refine (RowsAt.snoc (rw_.same sc) eC).upd fun h => ?_
        rcases List.mem_append.mp h with h | h
        · exact (fr D h).2 rfl
        · rw [List.mem_singleton] at h
          exact CD h.symm
    · obtain ⟨sm, as, fr, nd, eD, rw_⟩ := pv
      rw [wl, List.take_length] at rw_
      refine q H' D as (s1.trans sm) nD0 (fun a ha => none_of s1 (fr a ha).1) nd eD ?_
      rw [← hrows]
      exact rw_
end
end Pb

namespace Pb
open PySem PySem.Spec PyProof.Rows L2 TL
/-! ### _law_parted -/
abbrev sPart : Stmt := top 37
abbrev nPart : List Str := ["_law_text_here", "_law_found", "_law_word", "_law_sign_here"]
theorem scPart : FnScope nPart ["_law_text_here"] (defScope sPart) := ⟨rfl, rfl, rfl, by decide +kernel, rfl, by decide +kernel, by decide +kernel⟩
theorem atI_last {α : Type} (xs : List α) (x : α) : atI (xs ++ [x]) (-1) = some x := by
  unfold atI ixN
  rw [if_neg (by decide)]
  have : (xs ++ [x]).length = xs.length + 1 := by simp
  simp only [this]
  rw [if_pos (by omega)]
  have e : ((-1 : Int) + ((xs.length + 1 : Nat) : Int)).toNat = xs.length := by omega
  show (xs ++ [x])[((-1 : Int) + ((xs.length + 1 : Nat) : Int)).toNat]? = some x
  rw [e]
  simp
theorem cut_last (xs : List V) (x : V) : cutV (xs ++ [x]) none (some (-1)) = xs := by
  unfold cutV
  have e1 : HT.sIx (xs ++ [x]).length 0 none = 0 := rfl
  have e2 : HT.sIx (xs ++ [x]).length (xs ++ [x]).length (some (-1)) = xs.length := by
    show (if (-1 : Int) < 0 then ((-1 : Int) + ((xs ++ [x]).length : Int)).toNat else min (-1 : Int).toNat (xs ++ [x]).length) = _
    rw [if_pos (by decide)]
    simp
    omega
  rw [e1, e2]
  simp
structure Pt (H : Hp) (fp : Addr) (bs : List Addr) (b : Addr) (done : List (List (List Nat))) (cur : List (List Nat)) (H' : Hp) : Prop where
  sm : Same H H'
  nf : H fp = none
  ef : H' fp = some (.lst ((bs ++ [b]).map V.ref))
  fr : ∀ a ∈ bs ++ [b], H a = none ∧ a ≠ fp
  nd : (bs ++ [b]).Nodup
  rw : RowsAt H' bs done
  eb : H' b = some (.lst (wV cur))
theorem Pt.app {H H' : Hp} {fp b : Addr} {bs : List Addr} {done : List (List (List Nat))} {cur : List (List Nat)} (h : Pt H fp bs b done cur H') (w : List Nat) : Pt H fp bs b done (cur ++ [w]) (upd H' b (.lst (wV cur ++ [.str (ofL w)]))) := by
  have hb := h.fr b (by simp)
  refine ⟨fun a o e => ?_, h.nf, ?_, h.fr, h.nd, h.rw.upd fun hm => ?_, ?_⟩
  · rw [upd_ne (ne_none e hb.1)]
    exact h.sm _ _ e
  · rw [upd_ne (Ne.symm hb.2)]
    exact h.ef
  · have := h.nd
    rw [List.nodup_append] at this
    exact this.2.2 b hm b (by simp) rfl
  · rw [upd_same]
    unfold wV
    rw [List.map_append]
    rfl
theorem Pt.row {H H' : Hp} {fp b e : Addr} {bs : List Addr} {done : List (List (List Nat))} {cur : List (List Nat)} (h : Pt H fp bs b done cur H') (ne : H' e = none) :
    Pt H fp (bs ++ [b]) e (done ++ [cur]) [] (upd (upd H' e (.lst [])) fp (.lst ((bs ++ [b]).map V.ref ++ [.ref e]))) := by
  have ef : e ≠ fp := (ne_none h.ef ne).symm
  have s1 := same_upd ne (o := .lst [])
  refine ⟨fun a o ea => ?_, h.nf, ?_, fun a ha => ?_, ?_, ?_, ?_⟩
  · rw [upd_ne (ne_none ea h.nf)]
    exact s1 _ _ (h.sm _ _ ea)
  · rw [upd_same, List.map_append (l₁ := bs ++ [b])]
    rfl
  · rcases List.mem_append.mp ha with z | z
    · exact h.fr a z
    · rw [List.mem_singleton] at z
      subst z
      exact ⟨none_of h.sm ne, ef⟩
  · rw [List.nodup_append]
    refine ⟨h.nd, by simp, fun a ha c hc => ?_⟩
    rw [List.mem_singleton] at hc
    subst hc
    rcases List.mem_append.mp ha with z | z
    · obtain ⟨row, _, er⟩ := h.rw.mem z
      exact ne_none er ne
    · rw [List.mem_singleton] at z
      subst z
      exact ne_none h.eb ne
  · refine ((h.rw.same s1).snoc (s1 _ _ h.eb)).upd fun hm => ?_
    exact (h.fr fp hm).2 rfl
  · rw [upd_ne ef, upd_same]
    rfl
theorem sep_mem {c : Nat} : decide (c ∈ (" \n" : Str).cps.toList) = decide (c = 32 ∨ c = 10) := by
  have : (" \n" : Str).cps.toList = [32, 10] := by decide +kernel
  rw [this]
  simp
theorem sign_nl {c : Nat} : decide (V.str ⟨#[c]⟩ = V.str "\n") = decide (c = 10) := by
  by_cases h : c = 10
  · subst h
    rw [decide_eq_true rfl]
    decide +kernel
  · rw [decide_eq_false h]
    refine decide_eq_false fun e => h ?_
    have e2 : (⟨#[c]⟩ : Str).cps.toList = [10] := by
      rw [V.str.inj e]
      decide +kernel
    simpa using e2
theorem ofL_nil {w : List Nat} : decide (V.str (ofL w) = V.str "") = decide (w = []) := by
  by_cases h : w = []
  · subst h
    decide +kernel
  · rw [decide_eq_false h]
    refine decide_eq_false fun e => h ?_
    have e2 : tl (ofL w) = [] := by
      rw [V.str.inj e]
      decide +kernel
    exact e2
def tNl (K : PySem.W.Frag) : TS := tIfS (tTest (tOp rEq (tVar 3) (tC (V.str (Str.ofString "\n"))))) (tDrop (tBM K "list" rAppend (tVar 1) (tCons (tLst tNil) tNil))) tNext
section
variable {P : Program} {w : World} {K : PySem.W.Frag} {mg : Str → Option Value} {base : Heap} {f : Addr} {fd : FuncData}
theorem ok_part (F : FnD K "_law_parted" sPart [] f fd) : FnOk P w K mg base CX0 1 f fd ["_law_text_here"] spRows := by
  refine F.ok scPart (fun vs H Q E h => ?_) (fun cdv A outer s H vs Q E hr h => ?_)
  · obtain ⟨z, rfl, _⟩ := h
    rfl
  · obtain ⟨z, rfl, zl, q⟩ := h
    refine ⟨_, PSs.nox (pss_cons (ps_par (i := 1) (j := 2) rfl scPart.nd rfl rfl (by decide) rfl rfl (pa_cons (pe_lst (pa_cons (pe_lst pa_nil) pa_nil)) (pa_cons pe_str pa_nil)) rfl)
      (pss_cons (ps_for PassesOwn.never rfl (pi_str (pe_op op_add_str (pv 0) pe_str)) (pg_name (i := 3) scPart.nd rfl (.inl rfl))
        (pss_cons (ps_if (pt_cmpR op_in_sign (pv 3) pe_str rfl)
            (pss_cons (ps_if (pt_cmpR op_ne (pv 2) pe_str (nomark _)) (pss_one (ps_expr (pe_bm PySem.F.plainAttrs_list PySem.F.slot_list_append PySem.F.type_list_append mt_append (pe_ix ix_list (pv 1) (pe_un un_neg pe_int) (fun _ _ => rfl)) (pa_cons (pv 2) pa_nil)))) pss_nil)
              (pss_one (ps_set (i := 2) scPart.nd rfl (.inl rfl) pe_str)))
            (pss_one (ps_set (i := 2) scPart.nd rfl (.inl rfl) (pe_op op_add_str (pv 2) (pv 3)))))
        (pss_one (ps_if (pt_cmpR op_eq (pv 3) pe_str (nomark _)) (pss_one (ps_expr (pe_bm PySem.F.plainAttrs_list PySem.F.slot_list_append PySem.F.type_list_append mt_append (pv 1) (pa_cons (pe_lst pa_nil) pa_nil)))) pss_nil))))
      (pss_one (ps_ret (pe_slice sl_list (pv 1) po_none (po_some (pe_un un_neg pe_int))))))), ?_⟩
    dsimp only [cxOf]
    have tu : tl (z ++ "\n") = tl z ++ [10] := by
      show (z.cps ++ _).toList = _
      rw [Array.toList_append]
      congr 1
    have hzl : (tl z).length ≤ 20000 := by rw [← len_tl z]; exact zl
    refine ⟨Nat.zero_le _, fun b0 nb0 => ⟨(by show 1 ≤ sizeLine; decide), fun fp nfp => ⟨_, _, rfl, ?_⟩⟩⟩
    have bf : b0 ≠ fp := fun e => by
      rw [← e, upd_same] at nfp
      cases nfp
    obtain ⟨s1, e1⟩ := nxo (o := .lst []) nb0
    generalize upd H b0 (.lst []) = H1 at s1 e1 nfp ⊢
    obtain ⟨s2, e2⟩ := nxo (o := .lst [.ref b0]) nfp
    have p0 : Pt H fp [] b0 [] [] (upd H1 fp (.lst [.ref b0])) := ⟨s1.trans s2, none_of s1 nfp, e2, fun a ha => by
      rw [List.nil_append, List.mem_singleton] at ha
      subst ha
      exact ⟨nb0, bf⟩, by simp, ⟨rfl, fun _ _ _ h => nomatch h⟩, s2 _ _ e1⟩
    generalize upd H1 fp (.lst [.ref b0]) = H2 at p0 ⊢
    have ul : (z ++ ("\n" : Str)).cps.size = (tl z).length + 1 := by
      rw [← Array.length_toList]
      show (tl (z ++ "\n")).length = _
      rw [tu]
      simp
    refine ⟨_, rfl, z, "\n", rfl, rfl, ?_, _, rfl, for_it walk_str (fun i σ H' => ∃ bs b done cur w y, σ = [some (.str z), some (.ref fp), some (.str (ofL w)), y] ∧ Pt H fp bs b done cur H' ∧ bs.length ≤ i ∧ cur.length ≤ i ∧ w.length ≤ i ∧ done ++ prt cur w ((tl z ++ [10]).drop i) = rowsN (tl z ++ [10]))
      ⟨[], b0, [], [], [], none, rfl, p0, Nat.le_refl _, Nat.le_refl _, Nat.le_refl _, rfl⟩ (fun _ _ _ _ _ => trivial) (fun i x σ Ha Hb hi pv y => ?_) fun σ Ha pv => ?_⟩
    · exact Nat.le_of_lt (len20k (by show z.cps.size + 1 ≤ _; omega))
    · obtain ⟨bs, b, done, cur, w, y0, rfl, pt, l1, l2, l3, hp⟩ := pv
      obtain ⟨rfl, c, gc, rfl⟩ := y
      rw [ul] at hi
      have gd : (tl z ++ [10]).drop i = c :: (tl z ++ [10]).drop (i + 1) := by
        have g2 := arr_get gc
        rw [show (z ++ ("\n" : Str)).cps.toList = tl z ++ [10] from tu] at g2
        obtain ⟨h1, h2⟩ := List.getElem?_eq_some_iff.mp g2
        rw [List.drop_eq_getElem_cons h1, h2]
      rw [gd] at hp
      generalize (tl z ++ [10]).drop (i + 1) = rest at hp
      generalize hgo : rowsN (tl z ++ [10]) = goal at hp ⊢
      have second : ∀ (cur1 : List (List Nat)) (w1 : List Nat) (H1 : Hp) (D : Ends), D.nx = (fun σ H' => ∃ bs b done cur w y, σ = [some (.str z), some (.ref fp), some (.str (ofL w)), y] ∧ Pt H fp bs b done cur H' ∧ bs.length ≤ i + 1 ∧ cur.length ≤ i + 1 ∧ w.length ≤ i + 1 ∧ done ++ prt cur w rest = goal) →
          Pt H fp bs b done cur1 H1 → cur1.length ≤ i + 1 → w1.length ≤ i + 1 → (c = 10 → w1 = [] ∧ (done ++ [cur1]) ++ prt [] [] rest = goal) → (c ≠ 10 → done ++ prt cur1 w1 rest = goal) → tNl K D [some (.str z), some (.ref fp), some (.str (ofL w1)), some (.str ⟨#[c]⟩)] H1 := fun cur1 w1 H1 D eD p1 k1 k2 h10 hn => by
        refine ⟨_, rfl, rfl, _, rfl, ?_⟩
        rw [sign_nl]
        by_cases hc : c = 10
        · rw [decide_eq_true hc]
          obtain ⟨rfl, h11⟩ := h10 hc
          refine iteT ⟨_, rfl, .inl ⟨rfl, _, .of p1.ef⟩, Nat.zero_le _, fun e ne => ⟨fp, _, _, rfl, rfl, same_upd ne _ _ p1.ef, ?_, ?_⟩⟩
          · rw [List.length_map, List.length_append]
            exact len20k (by show bs.length + 1 ≤ _; omega)
          · rw [eD]
            exact ⟨bs ++ [b], e, done ++ [cur1], [], [], _, rfl, p1.row ne, by rw [List.length_append]; show bs.length + 1 ≤ _; omega, Nat.zero_le _, Nat.zero_le _, h11⟩
        · rw [decide_eq_false hc]
          refine iteF ?_
          show D.nx _ _
          rw [eD]
          exact ⟨bs, b, done, cur1, w1, _, rfl, p1, by omega, k1, k2, hn hc⟩
      refine ⟨_, rfl, c, " \n", rfl, rfl, _, rfl, ?_⟩
      rw [sep_mem]
      by_cases hs : c = 32 ∨ c = 10
      · rw [decide_eq_true hs]
        refine iteT ⟨_, rfl, rfl, _, rfl, ?_⟩
        rw [ofL_nil]
        have nx : (done ++ prt cur w (c :: rest) = goal) → (c = 10 → (done ++ [cur ++ ow w]) ++ prt [] [] rest = goal) ∧ (c ≠ 10 → done ++ prt (cur ++ ow w) [] rest = goal) := fun h => by
          refine ⟨fun hc => ?_, fun hc => ?_⟩
          · unfold prt at h
            rw [if_pos hc] at h
            rw [List.append_assoc]
            exact h
          · unfold prt at h
            rw [if_neg hc, if_pos (hs.resolve_right hc)] at h
            exact h
        obtain ⟨n1, n2⟩ := nx hp
        by_cases hw : w = []
        · subst hw
          have e : cur ++ ow [] = cur := by simp [ow]
          rw [e] at n1 n2
          exact iteF (second cur [] _ _ rfl pt (by omega) (Nat.zero_le _) (fun h => ⟨rfl, n1 h⟩) n2)
        · rw [decide_eq_false hw]
          have e : cur ++ ow w = cur ++ [w] := by simp [ow, hw]
          rw [e] at n1 n2
          refine iteT ⟨_, rfl, _, rfl, fp, _, _, _, rfl, rfl, .of pt.ef, (show atI ((bs ++ [b]).map V.ref) (-1) = some (.ref b) by rw [List.map_append]; exact atI_last _ _), .inl ⟨rfl, _, .of pt.eb⟩, _, rfl, b, _, _, rfl, rfl, pt.eb, ?_, ?_⟩
          · unfold wV
            rw [List.length_map]
            exact len20k (by omega)
          · exact second (cur ++ [w]) [] _ _ rfl (pt.app w) (by rw [List.length_append]; show cur.length + 1 ≤ _; omega) (Nat.zero_le _) (fun h => ⟨rfl, n1 h⟩) n2
      · rw [decide_eq_false hs]
        refine iteF ⟨_, rfl, _, rfl, ofL w, ⟨#[c]⟩, rfl, rfl, ?_, ?_⟩
        · show w.toArray.size + 1 ≤ sizeLine
          rw [List.size_toArray]
          exact Nat.le_of_lt (len20k (by omega))
        · have e : (ofL w ++ (⟨#[c]⟩ : Str)) = ofL (w ++ [c]) := by
            show (⟨w.toArray ++ #[c]⟩ : Str) = ⟨(w ++ [c]).toArray⟩
            simp
          rw [e]
          refine second cur (w ++ [c]) _ _ rfl pt (by omega) (by rw [List.length_append]; show w.length + 1 ≤ _; omega) (fun h => absurd (.inr h) hs) fun hc => ?_
          unfold prt at hp
          rw [if_neg hc, if_neg (fun h => hs (.inl h))] at hp
          exact hp
    · obtain ⟨bs, b, done, cur, w, y0, rfl, pt, l1, l2, l3, hp⟩ := pv
      rw [ul, List.drop_eq_nil_of_le (by simp)] at hp
      have hp2 : done ++ [cur ++ ow w] = rowsN (tl z) ++ [[]] := by
        unfold rowsN at hp ⊢
        rw [← prt_end]
        exact hp
      have hd : done = rowsN (tl z) := by
        have := congrArg List.dropLast hp2
        simpa using this
      refine ⟨_, rfl, _, rfl, -1, rfl, fp, _, rfl, .of pt.ef, fun r nr => ?_⟩
      rw [List.map_append]
      show Q (.ref r) (upd Ha r (.lst (cutV (bs.map V.ref ++ [.ref b]) none (some (-1)))))
      rw [cut_last]
      refine q _ r bs (fun a o e => ?_) (none_of pt.sm nr) (fun a ha => (pt.fr a (List.mem_append_left _ ha)).1) ?_ upd_same ?_
      · rw [upd_ne (ne_none (pt.sm _ _ e) nr)]
        exact pt.sm _ _ e
      · have := pt.nd
        rw [List.nodup_append] at this
        exact this.1
      · rw [← hd]
        exact pt.rw.same (same_upd nr)
end
end Pb

namespace Pb
open PySem PySem.Spec PyProof.Rows L2 TL
/-! ### drawn signs, texts, figures -/
/-- all but the draw stays -/
def Kp (d : Addr) (H H' : Hp) : Prop := ∀ b o, b ≠ d → H b = some o → H' b = some o
theorem Kp.refl {d : Addr} (H : Hp) : Kp d H H := fun _ _ _ e => e
theorem Kp.trans {d : Addr} {H H' H'' : Hp} (a : Kp d H H') (b : Kp d H' H'') : Kp d H H'' := fun c o n e => b c o n (a c o n e)
theorem But.kp {d : Addr} {H H' : Hp} (b : But d H H') : Kp d H H' := fun c o n e => by
  rw [b c n]
  exact e
theorem Same.kp {d : Addr} {H H' : Hp} (s : Same H H') : Kp d H H' := fun c o _ e => s c o e
theorem Dr.mono {H : Hp} {d : Addr} {n m : Nat} (h : Dr H d n) (l : n ≤ m) : Dr H d m := by
  obtain ⟨c, a, x, u, cs, h1, h2, h3, h4, h5, h6, h7, h8⟩ := h
  exact ⟨c, a, x, u, cs, h1, h2, h3, h4, h5, by omega, h7, by omega⟩
theorem Kp.lst {H H' : Hp} {d p : Addr} {n : Nat} {xs : List V} (b : Kp d H H') (h : Dr H d n) (e : H p = some (.lst xs)) : H' p = some (.lst xs) := by
  obtain ⟨kvs, ed⟩ := h.at
  exact b p _ (ne_of e ed (by intro z; cases z)) e
theorem Kp.tup {H H' : Hp} {d p : Addr} {n : Nat} {xs : List V} (b : Kp d H H') (h : Dr H d n) (e : H p = some (.tup xs)) : H' p = some (.tup xs) := by
  obtain ⟨kvs, ed⟩ := h.at
  exact b p _ (ne_of e ed (by intro z; cases z)) e
abbrev sSign : Stmt := top 28
/-- the signs that are drawn from -/
def sgn : Str := match (defBody sSign).headD (.Pass ⟨0, 0, 0, 0⟩) with
  | .Assign _ (.Constant (.str z) _ _) _ => z
  | _ => ""
theorem sgn_asc : ∀ c ∈ sgn.cps.toList, c < 128 := by decide +kernel
theorem sgn_len : sgn.length = 95 := by decide +kernel
theorem scSign : FnScope ["_law_draw", "_law_signs"] ["_law_draw"] (defScope sSign) := ⟨rfl, rfl, rfl, by decide +kernel, rfl, by decide +kernel, by decide +kernel⟩
def spSign : Sp := fun vs H Q _ => ∃ (d : Addr) (n : Nat), vs = [.ref d] ∧ Dr H d n ∧ n < 2 ^ 39 ∧ ∀ (c : Nat) (H' : Hp), c < 128 → Dr H' d (n + 1) → Kp d H H' → Q (.str ⟨#[c]⟩) H'
/-- the sign of z at a drawn place -/
theorem at_sign {z : Str} {v : Int} (h0 : 0 ≤ v) (h1 : v < z.length) : ∃ c, c ∈ z.cps.toList ∧ atI z.cps.toList v = some c := by
  obtain ⟨j, rfl⟩ : ∃ j : Nat, v = (j : Int) := ⟨_, (Int.toNat_of_nonneg h0).symm⟩
  have hl : z.cps.toList.length = z.length := Array.length_toList
  have hj : j < z.cps.toList.length := by omega
  exact ⟨z.cps.toList[j], List.getElem_mem hj, atI_nat (List.getElem?_eq_getElem hj)⟩
/-- what stands in a list at a drawn place -/
theorem at_list {xs : List V} {v : Int} (h0 : 0 ≤ v) (h1 : v < xs.length) : ∃ x, x ∈ xs ∧ atI xs v = some x := by
  obtain ⟨j, rfl⟩ : ∃ j : Nat, v = (j : Int) := ⟨_, (Int.toNat_of_nonneg h0).symm⟩
  have hj : j < xs.length := by omega
  exact ⟨xs[j], List.getElem_mem hj, atI_nat (List.getElem?_eq_getElem hj)⟩
section
variable {P : Program} {w : World} {K : PySem.W.Frag} {mg : Str → Option Value} {base : Heap} {f : Addr} {fd : FuncData}
theorem ok_sign {fN : Addr} {dN : FuncData} (F : FnD K "_law_sign" sSign [] f fd) (B : B0 mg) (FN : FnP K "_law_next" sNext fN dN) (gN : mg "_law_next" = some (.ref fN)) (GN : FnOk P w K mg base CX0 2 fN dN ["_law_draw", "_law_many"] spNext) :
    FnOk P w K mg base CX0 3 f fd ["_law_draw"] spSign := by
  have bN : Binds K dN ["_law_draw", "_law_many"] [] := FN.bindsN fun _ _ _ _ _ _ us hl => match us, hl with | [_, _], _ => rfl
  refine F.ok scSign (fun vs H Q E h => ?_) (fun cdv A outer s H vs Q E hr h => ?_)
  · obtain ⟨d, n, rfl, _⟩ := h
    rfl
  · obtain ⟨d, n, rfl, dr, hn, q⟩ := h
    refine ⟨_, PSs.nox (pss_cons (ps_set (i := 1) scSign.nd rfl (.inl rfl) pe_str) (pss_one (ps_ret (pe_ix ix_str (pv 1) (pe_call GN hr rfl gN FN.kp bN .nil pass0 (pa_cons (pv 0) (pa_cons (pe_callB call_len rfl B.l PySem.boot_len (pa_cons (pv 1) pa_nil)) pa_nil))) (fun _ _ => rfl))))), ?_⟩
    dsimp only [cxOf]
    refine ⟨_, rfl, _, rfl, _, rfl, .str sgn, 95, rfl, ⟨(by rw [show (_ : Str).length = 95 from sgn_len]; decide), sgn_len.symm⟩, d, 95, n, rfl, dr, by decide, by decide, by omega, fun v H' h0 h1 dr' bt => ?_⟩
    obtain ⟨c, hc, hat⟩ := at_sign (z := sgn) h0 (by rw [sgn_len]; exact h1)
    exact ⟨sgn, v, c, rfl, rfl, (by rw [sgn_len]; decide), hat, q c H' (sgn_asc c hc) dr' bt.kp⟩
end
end Pb

namespace Pb
open PySem PySem.Spec PyProof.Rows L2 TL
theorem Dr.updL {H : Hp} {d D : Addr} {n : Nat} {xs : List V} {o : HO} (h : Dr H d n) (e : H D = some (.lst xs)) (hx : ∀ x ∈ xs, ∀ i, x ≠ .int i) : Dr (upd H D o) d n := by
  obtain ⟨cc, a1, l1, u1, cells, g1, g2, g3, g4⟩ := h
  have dD : d ≠ D := fun z => by
    rw [z, e] at g1
    cases g1
  have cD : cc ≠ D := fun z => by
    rw [z, e] at g2
    have g5 : xs = cells.map V.int := HO.lst.inj (Option.some.inj g2)
    cases cells with
    | nil => exact g3 rfl
    | cons c r => exact hx (.int c) (by rw [g5]; simp) c rfl
  exact ⟨cc, a1, l1, u1, cells, by rw [upd_ne dD]; exact g1, by rw [upd_ne cD]; exact g2, g3, g4⟩
theorem strs_nint {ys : List Str} : ∀ x ∈ ys.map V.str, ∀ i, x ≠ .int i := fun x hx i e => by
  obtain ⟨y, _, ey⟩ := List.mem_map.mp hx
  rw [e] at ey
  cases ey
theorem refs_nint {ys : List Addr} : ∀ x ∈ ys.map V.ref, ∀ i, x ≠ .int i := fun x hx i e => by
  obtain ⟨y, _, ey⟩ := List.mem_map.mp hx
  rw [e] at ey
  cases ey
theorem tC_go {v : V} {σ : L2.St} {H : Hp} {Q : VK} (h : Q v H) : tC v σ H Q := h
theorem gName_go {i : Nat} {v : V} {σ : L2.St} {H : Hp} {k : L2.St → Hp → Prop} (h : k (σ.set i (some v)) H) : gName i v σ H k := h
def sg (a : Nat) : Str := ⟨#[a]⟩
/-- a comprehension over a range, of drawn signs -/
theorem lc_dr {te : TE} {i c d : Nat} {n : Nat} {σ : L2.St} {H1 : Hp} {Q : VK} (hi : i < σ.length) (hc : c ≤ 1000) (dr : Dr H1 d n)
    (step : ∀ (k : Nat) (H' : Hp) (Q' : VK), k < c → Dr H' d (n + k) → Kp d H1 H' → (∀ a H'', a < 128 → Dr H'' d (n + k + 1) → Kp d H' H'' → Q' (.str (sg a)) H'') → te ((wipe σ [i]).set i (some (.int (0 + (k : Nat))))) H' Q')
    (q : ∀ (D : Addr) (H' : Hp) (cs : List Nat), H1 D = none → cs.length = c → (∀ a ∈ cs, a < 128) → Dr H' d (n + c) → Kp d H1 H' → H' D = some (.lst ((cs.map sg).map V.str)) → Q (.ref D) H') :
    ∀ D, H1 D = none → ∃ W : Nat → Nat → Hp → Prop, (∃ m, W 0 m (upd H1 D (.lst []))) ∧ ∀ j m H, W j m H →
      ((Itr 0 c).stop j H ∧ Q (.ref D) H) ∨ ((Itr 0 c).go j H ∧ ∃ Nx : Hp → Prop, (∀ H', Nx H' → ∃ m', m' < m ∧ W (j + 1) m' H') ∧ ∀ x H', (Itr 0 c).yld j H x H' → gName i x (wipe σ [i]) H' fun σ2 H2 => wipe σ2 [i] = wipe σ [i] ∧ tYes σ2 H2 fun b H3 =>
        if b = true then te σ2 H3 fun y H4 => ∃ acc, H4 D = some (.lst acc) ∧ acc.length < sizeLine ∧ Nx (upd H4 D (.lst (acc ++ [y]))) else Nx H3) := by
  intro D nD
  refine lc_it walk_range (fun m H' => ∃ cs : List Nat, cs.length = m ∧ (∀ a ∈ cs, a < 128) ∧ Dr H' d (n + m) ∧ Kp d H1 H' ∧ H' D = some (.lst ((cs.map sg).map V.str))) ⟨[], rfl, (fun _ h => nomatch h), dr.same (same_upd nD), Same.kp (same_upd nD), upd_same⟩ (fun _ _ _ _ => trivial) (fun m x Ha Hb hm pv y => ?_) fun H' pv => ?_
  · obtain ⟨cs, hl, ha, dr', kp, eD⟩ := pv
    obtain ⟨rfl, rfl⟩ := y
    refine ⟨?_, ?_⟩
    · show (((σ.set i none).set i _).set i none) = σ.set i none
      rw [List.set_set, List.set_set]
    · dsimp only [tYes]
      rw [if_pos rfl]
      refine step m Hb _ hm dr' kp fun a Hc h128 dr2 kp2 => ⟨_, kp2.lst dr' eD, ?_, cs ++ [a], ?_, fun b hb => ?_, ?_, ?_, ?_⟩
      · rw [List.length_map, List.length_map, hl]
        exact len20k (by omega)
      · rw [List.length_append, hl]
        rfl
      · rcases List.mem_append.mp hb with h | h
        · exact ha b h
        · rw [List.mem_singleton] at h
          subst h
          exact h128
      · exact dr2.updL (kp2.lst dr' eD) strs_nint
      · exact fun b o nb e => by
          rw [upd_ne (ne_none e nD)]
          exact kp2 b o nb (kp b o nb e)
      · rw [upd_same, List.map_append, List.map_append]
        rfl
  · obtain ⟨cs, hl, ha, dr', kp, eD⟩ := pv
    exact q D H' cs nD hl ha dr' kp eD
theorem lc_drR {ta : TA} {te : TE} {i d : Nat} {n e : Nat} {CC : Nat → Prop} {σ : L2.St} {H : Hp} {Q : VK} (hta : ∀ R : List V → Hp → Prop, (∀ (c : Nat) (H1 : Hp), c ≤ 1000 → CC c → Dr H1 d (n + e) → Kp d H H1 → R [.int (c : Nat)] H1) → ta σ H R) (hi : i < σ.length)
    (step : ∀ (k : Nat) (H1 H' : Hp) (Q' : VK), k < 1000 → Kp d H H1 → Dr H1 d (n + e) → Dr H' d (n + e + k) → Kp d H1 H' → (∀ a H'', a < 128 → Dr H'' d (n + e + k + 1) → Kp d H' H'' → Q' (.str (sg a)) H'') → te ((wipe σ [i]).set i (some (.int (0 + (k : Nat))))) H' Q')
    (q : ∀ (D : Addr) (H' : Hp) (cs : List Nat), H D = none ∨ D = d → D ≠ d → CC cs.length → cs.length ≤ 1000 → (∀ a ∈ cs, a < 128) → Dr H' d (n + e + cs.length) → Kp d H H' → H' D = some (.lst ((cs.map sg).map V.str)) → Q (.ref D) H') : tLc (iRng1 ta) (gName i) tYes te [i] σ H Q := by
  refine hta _ fun c H1 hc cc dr kp => ⟨c, rfl, by omega, by omega, ?_⟩
  rw [Int.toNat_natCast]
  refine lc_dr (te := te) (Q := Q) hi hc dr (fun k H' Q' hk dr' kp' q' => step k H1 H' Q' (by omega) kp dr dr' kp' q') fun D H' cs nD hl ha dr' kp' eD => ?_
  have dD : D ≠ d := by
    obtain ⟨kvs, ed⟩ := dr.at
    exact (ne_none ed nD).symm
  subst hl
  refine q D H' cs ?_ dD cc hc ha dr' (kp.trans kp') eD
  cases eH : H D with
  | none => exact .inl rfl
  | some o => exact absurd (kp D o dD eH) (by rw [nD]; simp)
theorem join_signs (cs : List Nat) : tl (Txt.join "" (cs.map sg)) = cs := by
  rw [join_eq, tl_join]
  have e : ∀ l : List (List Nat), joinL (tl ("" : Str)) l = l.flatten := by
    intro l
    induction l with
    | nil => rfl
    | cons p r ih =>
      cases r with
      | nil =>
        show p = _
        simp
      | cons q r =>
        show p ++ ([] ++ joinL (tl ("" : Str)) (q :: r)) = _
        rw [ih]
        rfl
  rw [e, List.map_map]
  induction cs with
  | nil => rfl
  | cons a r ih =>
    rw [List.map_cons, List.flatten_cons, ih]
    rfl
/-- a text of plain signs, of at most k signs -/
def Sh (k : Nat) (z : Str) : Prop := (∀ c ∈ tl z, c < 128) ∧ (tl z).length ≤ k
theorem Sh.pl {k : Nat} {z : Str} (h : Sh k z) (hk : k ≤ 20000) : Pl z := ⟨h.1, by
  have : z.cps.size = (tl z).length := Array.length_toList.symm
  rw [this]
  exact Nat.le_trans h.2 hk⟩
theorem Sh.len {k : Nat} {z : Str} (h : Sh k z) : z.length ≤ k := by
  rw [len_tl z]
  exact h.2
theorem ltr_asc : ∀ c ∈ ltr.cps.toList, c < 128 := by decide +kernel
theorem fig_asc : ∀ c ∈ fig.cps.toList, c < 128 := by decide +kernel
abbrev sText : Stmt := top 29
abbrev sFigs : Stmt := top 30
abbrev nText : List Str := ["_law_draw", "_law_many", "_law_letters", "_law_signs", "_law_k"]
abbrev nFigs : List Str := ["_law_draw", "_law_many", "_law_word", "_law_at", "_law_k"]
theorem scText : FnScope nText ["_law_draw"] (defScope sText) := ⟨rfl, rfl, rfl, by decide +kernel, rfl, by decide +kernel, by decide +kernel⟩
theorem scFigs : FnScope nFigs ["_law_draw"] (defScope sFigs) := ⟨rfl, rfl, rfl, by decide +kernel, rfl, by decide +kernel, by decide +kernel⟩
def spText : Sp := fun vs H Q _ => ∃ (d : Addr) (n : Nat), vs = [.ref d] ∧ Dr H d n ∧ n < 2 ^ 38 ∧ ∀ (z : Str) (H' : Hp), Sh 40 z → Dr H' d (n + 50) → Kp d H H' → Q (.str z) H'
section
variable {P : Program} {w : World} {K : PySem.W.Frag} {mg : Str → Option Value} {base : Heap} {f : Addr} {fd : FuncData}
theorem ok_text {fN fS : Addr} {dN dS : FuncData} (F : FnD K "_law_text" sText [] f fd) (B : B0 mg) (gR : mg "range" = none) (FN : FnP K "_law_next" sNext fN dN) (gN : mg "_law_next" = some (.ref fN)) (GN : FnOk P w K mg base CX0 2 fN dN ["_law_draw", "_law_many"] spNext)
    (FS : FnD K "_law_sign" sSign [] fS dS) (gS : mg "_law_sign" = some (.ref fS)) (GS : FnOk P w K mg base CX0 3 fS dS ["_law_draw"] spSign) : FnOk P w K mg base CX0 4 f fd ["_law_draw"] spText := by
  have bN : Binds K dN ["_law_draw", "_law_many"] [] := FN.bindsN fun _ _ _ _ _ _ us hl => match us, hl with | [_, _], _ => rfl
  have bS : Binds K dS ["_law_draw"] [] := FS.bindsN fun _ _ _ _ _ _ us hl => match us, hl with | [_], _ => rfl
  refine F.ok scText (fun vs H Q E h => ?_) (fun cdv A outer s H vs Q E hr h => ?_)
  · obtain ⟨d, n, rfl, _⟩ := h
    rfl
  · obtain ⟨d, n, rfl, dr, hn, q⟩ := h
    have hr2 := hr.mono (show 2 ≤ 3 by decide)
    refine ⟨_, PSs.nox (pss_cons (ps_set (i := 1) scText.nd rfl (.inl rfl) (pe_ix ix_list (pe_lst (pa_cons (pe_op op_add pe_int (pe_call GN hr2 rfl gN FN.kp bN .nil pass0 (pa_cons (pv 0) (pa_cons pe_int pa_nil)))) (pa_cons pe_int (pa_cons pe_int (pa_cons (pe_call GN hr2 rfl gN FN.kp bN .nil pass0 (pa_cons (pv 0) (pa_cons pe_int pa_nil))) (pa_cons pe_int pa_nil))))))
          (pe_call GN hr2 rfl gN FN.kp bN .nil pass0 (pa_cons (pv 0) (pa_cons pe_int pa_nil))) (fun _ _ => rfl)))
      (pss_cons (ps_set (i := 2) scText.nd rfl (.inr rfl) pe_str)
      (pss_cons (ps_setLc (i := 3) (own := [("_law_k", 4)]) (g := gName 4) (tt := tYes) rfl scText.nd rfl rfl (sw_true rfl rfl rfl (by decide +kernel)) (pi_range1 rfl gR (pa_cons (pv 1) pa_nil)) (blkOk_by (N := nText) (sc := defScope sText) (by decide +kernel))
          (fun _ _ _ _ _ => pg_name (i := 4) scText.nd rfl (.inl rfl)) (fun _ _ _ _ _ => pts_nil) (te := tOp rIxS (tVar 2) (tCall spNext [] E0 (tCons (tVar 0) (tCons (tC (.int 26)) tNil)))) (fun _ _ _ _ _ => pe_ix ix_str (pv 2) (pe_call GN hr2 rfl gN FN.kp bN .nil pass0 (pa_cons (pv 0) (pa_cons pe_int pa_nil))) (fun _ _ => rfl)))
      (pss_cons (ps_if (PW.pt (pw_and (pt_cmpR op_eq (pe_call GN hr2 rfl gN FN.kp bN .nil pass0 (pa_cons (pv 0) (pa_cons pe_int pa_nil))) pe_int (nomark _)) (pw_and1 (pt_cmpR op_gt (pv 1) pe_int (nomark _)))))
          (pss_one (ps_asg (pe_call GS hr rfl gS FS.kp bS .nil pass0 (pa_cons (pv 0) pa_nil)) (pg_sub (pv 3) (pe_call GN hr2 rfl gN FN.kp bN .nil pass0 (pa_cons (pv 0) (pa_cons (pv 1) pa_nil))) set_list))) pss_nil)
      (pss_one (ps_ret (pe_join pe_str (pv 3)))))))), ?_⟩
    dsimp only [cxOf]
    refine ⟨_, rfl, d, 3, n, rfl, dr, by decide, by decide, by omega, fun v1 Ha p1 q1 dra ba => ?_⟩
    refine ⟨_, _, rfl, rfl, _, rfl, d, 12, _, rfl, dra, by decide, by decide, by omega, fun v2 Hb p2 q2 drb bb => ?_⟩
    refine ⟨(by show 5 ≤ sizeLine; decide), fun l1 k1 => ?_⟩
    obtain ⟨s1, e1⟩ := nxo (o := .lst [.int (1 + v1), .int 8, .int 9, .int v2, .int 7]) k1
    have kp1 : Kp d H (upd Hb l1 (.lst [.int (1 + v1), .int 8, .int 9, .int v2, .int 7])) := ba.kp.trans (bb.kp.trans (Same.kp s1))
    have dr1 := drb.same s1
    refine ⟨_, rfl, d, 5, _, rfl, dr1, by decide, by decide, by omega, fun v3 Hc p3 q3 drc bc => ?_⟩
    obtain ⟨x, hx, hat⟩ := at_list (xs := [.int (1 + v1), .int 8, .int 9, .int v2, .int 7]) p3 q3
    have hm : ∃ m : Nat, x = .int m ∧ m ≤ 11 := by
      simp only [List.mem_cons, List.not_mem_nil, or_false] at hx
      rcases hx with e | e | e | e | e
      · exact ⟨(1 + v1).toNat, by rw [e, Int.toNat_of_nonneg (by omega)], by omega⟩
      · exact ⟨8, e, by decide⟩
      · exact ⟨9, e, by decide⟩
      · exact ⟨v2.toNat, by rw [e, Int.toNat_of_nonneg p2], by omega⟩
      · exact ⟨7, e, by decide⟩
    obtain ⟨m, rfl, hm⟩ := hm
    have kpc := kp1.trans bc.kp
    refine ⟨l1, _, _, _, rfl, rfl, .of (bc.kp.lst dr1 e1), hat, ?_⟩
    clear hat hx p3 q3 bc dr1 kp1 s1 e1 k1 bb drb ba dra
    refine gName_go ?_
    dsimp only
    refine asg_go ?_
    refine tC_go ?_
    refine gName_go ?_
    refine asg_go (lc_drR (d := d) (n := n + 1 + 1 + 1) (e := 0) (i := 4) (CC := fun c => c = m) (te := tOp rIxS (tVar 2) (tCall spNext [] E0 (tCons (tVar 0) (tCons (tC (.int 26)) tNil)))) (σ := [some (.ref d), some (.int (m : Nat)), some (.str ltr), none, none]) (fun R h => ⟨_, rfl, h m Hc (by omega) rfl drc (Kp.refl _)⟩) (Nat.lt_of_sub_eq_succ rfl)
      (fun k H1 H' Q' hk kpa dra dr' kp' q' => ?_) fun D H' cs nD dD hl hl1 ha dr' kp' eD => ?_)
    · refine ⟨_, rfl, _, rfl, d, 26, _, rfl, dr', by decide, by decide, by omega, fun v H'' h0 h1 dr'' bt => ?_⟩
      obtain ⟨c, hc, hat⟩ := at_sign (z := ltr) h0 (by rw [show ltr.length = 26 by decide +kernel]; exact h1)
      exact ⟨ltr, v, c, rfl, rfl, by decide +kernel, hat, q' c H'' (ltr_asc c hc) dr'' bt.kp⟩
    · have fin : ∀ (H2 : Hp) (cs2 : List Nat), cs2.length = m → (∀ a ∈ cs2, a < 128) → Dr H2 d (n + 50) → Kp d H H2 → H2 D = some (.lst ((cs2.map sg).map V.str)) →
          tRet (tM1 (fun x xs H Q => ∃ a p, ∃ ys : List Str, x = .str a ∧ xs = [.ref p] ∧ (SqL K H p (ys.map V.str) ∨ SqT K H p (ys.map V.str)) ∧ (ys.map (·.length)).sum + ys.length * a.length ≤ 16777216 ∧ Q (.str (Txt.join a ys)) H) (tC (.str "")) (tVar 3)) { nx := fun _ H' => Q V.non H', rt := Q } [some (.ref d), some (.int (m : Nat)), some (.str ltr), some (.ref D), none] H2 := fun H2 cs2 hl2 ha2 d2 k2 e2 => by
        refine ⟨⟨_, rfl⟩, _, rfl, "", D, cs2.map sg, rfl, rfl, .inl (.of e2), ?_, ?_⟩
        · have : ((cs2.map sg).map (·.length)).sum = cs2.length := by
            rw [List.map_map]
            clear e2 k2 d2 ha2 hl2
            induction cs2 with
            | nil => rfl
            | cons a r ih =>
              rw [List.map_cons, List.sum_cons, ih, List.length_cons]
              show 1 + _ = _
              omega
          rw [this, List.length_map, show ("" : Str).length = 0 by decide +kernel]
          omega
        · refine q _ H2 ⟨?_, ?_⟩ d2 k2
          · rw [join_signs]
            exact ha2
          · rw [join_signs]
            omega
      refine ⟨_, rfl, d, 3, _, rfl, dr', by decide, by decide, by omega, fun v4 Hd p4 q4 drd bd => ⟨rfl, _, rfl, ?_⟩⟩
      have kd := kpc.trans (kp'.trans bd.kp)
      have ed := bd.kp.lst dr' eD
      refine ite2 (fun h4 => ⟨_, rfl, _, _, rfl, rfl, _, rfl, ite2 (fun h5 => ?_) (fun h5 => ?_)⟩) (fun h4 => iteF ?_)
      · have h5' : (0 : Int) < (m : Nat) := by simpa using h5
        refine ⟨_, rfl, d, _, rfl, drd, by omega, fun c He hc dre ke => ⟨_, rfl, _, rfl, _, rfl, d, _, _, rfl, dre, by omega, by omega, by omega, fun v6 Hf p6 q6 drf bf => ?_⟩⟩
        have ee := bf.kp.lst dre (ke.lst drd ed)
        refine ⟨D, _, v6, v6.toNat, rfl, rfl, ee, ?_, ?_⟩
        · unfold ixN
          rw [if_pos p6, if_pos (by rw [List.length_map, List.length_map, hl]; exact q6)]
        · refine fin _ (cs.set v6.toNat c) (by rw [List.length_set, hl]) (fun a h => ?_) ((drf.updL ee strs_nint).mono (by omega)) ?_ ?_
          · rcases List.mem_or_eq_of_mem_set h with h | h
            · exact ha a h
            · rw [h]
              exact hc
          · refine fun b o nb e => ?_
            rw [upd_ne (fun z => by
              have := kpc b o nb e
              rw [z, nD.resolve_right dD] at this
              cases this)]
            exact bf.kp b o nb (ke b o nb (kd b o nb e))
          · rw [upd_same, List.map_set, List.map_set]
            rfl
      · exact fin Hd cs hl ha (drd.mono (by omega)) kd ed
      · exact fin Hd cs hl ha (drd.mono (by omega)) kd ed
end
end Pb

namespace Pb
open PySem PySem.Spec PyProof.Rows L2 TL
theorem join_sum (cs : List Nat) : ((cs.map sg).map (·.length)).sum + (cs.map sg).length * ("" : Str).length = cs.length := by
  rw [show ("" : Str).length = 0 by decide +kernel, Nat.mul_zero, Nat.add_zero, List.map_map]
  induction cs with
  | nil => rfl
  | cons a r ih =>
    rw [List.map_cons, List.sum_cons, ih, List.length_cons]
    show 1 + _ = _
    omega
theorem Sh.mono {j k : Nat} {z : Str} (h : Sh j z) (l : j ≤ k) : Sh k z := ⟨h.1, Nat.le_trans h.2 l⟩
theorem Sh.app {j k : Nat} {y z : Str} (a : Sh j y) (b : Sh k z) : Sh (j + k) (y ++ z) := by
  have e : tl (y ++ z) = tl y ++ tl z := tl_append y z
  refine ⟨fun c hc => ?_, ?_⟩
  · rw [e] at hc
    rcases List.mem_append.mp hc with h | h
    · exact a.1 c h
    · exact b.1 c h
  · rw [e, List.length_append]
    have := a.2
    have := b.2
    omega
theorem Sh.cut {k : Nat} {z : Str} (a : Sh k z) (lo hi : Option Int) : Sh k (cutS z lo hi) := by
  have e : tl (cutS z lo hi) = ((z.cps.toList.drop (HT.sIx z.length 0 lo)).take (HT.sIx z.length z.length hi - HT.sIx z.length 0 lo)) := rfl
  refine ⟨fun c hc => ?_, ?_⟩
  · rw [e] at hc
    exact a.1 c (List.mem_of_mem_drop (List.mem_of_mem_take hc))
  · rw [e, List.length_take, List.length_drop]
    have : z.cps.toList.length ≤ k := a.2
    omega
theorem sh_sg {c : Nat} (h : c < 128) : Sh 1 (sg c) := ⟨fun a ha => by
  have : a = c := by simpa [sg] using ha
  rw [this]
  exact h, Nat.le_refl _⟩
theorem sh_join {cs : List Nat} (h : ∀ a ∈ cs, a < 128) : Sh cs.length (Txt.join "" (cs.map sg)) := by
  refine ⟨?_, ?_⟩
  · rw [join_signs]
    exact h
  · rw [join_signs]
    exact Nat.le_refl _
def pre7 : List Str := ["", "", "", "0", "-", "9999", "1000"]
theorem sh_pre7 : ∀ y ∈ pre7, Sh 4 y := by
  have : ∀ y ∈ pre7, (y.cps.toList.all fun c => decide (c < 128)) = true ∧ y.cps.toList.length ≤ 4 := by decide +kernel
  intro y hy
  obtain ⟨h1, h2⟩ := this y hy
  exact ⟨fun c hc => of_decide_eq_true (List.all_eq_true.mp h1 c hc), h2⟩
section
variable {P : Program} {w : World} {K : PySem.W.Frag} {mg : Str → Option Value} {base : Heap} {f : Addr} {fd : FuncData}
theorem ok_figs {fN fS : Addr} {dN dS : FuncData} (F : FnD K "_law_figures" sFigs [] f fd) (B : B0 mg) (gR : mg "range" = none) (FN : FnP K "_law_next" sNext fN dN) (gN : mg "_law_next" = some (.ref fN)) (GN : FnOk P w K mg base CX0 2 fN dN ["_law_draw", "_law_many"] spNext)
    (FS : FnD K "_law_sign" sSign [] fS dS) (gS : mg "_law_sign" = some (.ref fS)) (GS : FnOk P w K mg base CX0 3 fS dS ["_law_draw"] spSign) : FnOk P w K mg base CX0 4 f fd ["_law_draw"] spText := by
  have bN : Binds K dN ["_law_draw", "_law_many"] [] := FN.bindsN fun _ _ _ _ _ _ us hl => match us, hl with | [_, _], _ => rfl
  have bS : Binds K dS ["_law_draw"] [] := FS.bindsN fun _ _ _ _ _ _ us hl => match us, hl with | [_], _ => rfl
  refine F.ok scFigs (fun vs H Q E h => ?_) (fun cdv A outer s H vs Q E hr h => ?_)
  · obtain ⟨d, n, rfl, _⟩ := h
    rfl
  · obtain ⟨d, n, rfl, dr, hn, q⟩ := h
    have hr2 := hr.mono (show 2 ≤ 3 by decide)
    refine ⟨_, PSs.nox (pss_cons (ps_set (i := 1) scFigs.nd rfl (.inl rfl) (pe_ix ix_list (pe_lst (pa_cons pe_int (pa_cons pe_int (pa_cons pe_int (pa_cons pe_int (pa_cons pe_int (pa_cons pe_int (pa_cons pe_int (pa_cons (pe_call GN hr2 rfl gN FN.kp bN .nil pass0 (pa_cons (pv 0) (pa_cons pe_int pa_nil))) pa_nil)))))))))
          (pe_call GN hr2 rfl gN FN.kp bN .nil pass0 (pa_cons (pv 0) (pa_cons pe_int pa_nil))) (fun _ _ => rfl)))
      (pss_cons (ps_set (i := 2) scFigs.nd rfl (.inl rfl) (pe_join pe_str (pe_lc (own := [("_law_k", 4)]) (g := gName 4) (tt := tYes) rfl scFigs.nd (pi_range1 rfl gR (pa_cons (pv 1) pa_nil)) (blkOk_by (N := nFigs) (sc := defScope sFigs) (by decide +kernel))
          (fun _ _ _ _ _ => pg_name (i := 4) scFigs.nd rfl (.inl rfl)) (fun _ _ _ _ _ => pts_nil) (te := tOp rIxS (tC (.str fig)) (tCall spNext [] E0 (tCons (tVar 0) (tCons (tC (.int 10)) tNil)))) (fun _ _ _ _ _ => pe_ix ix_str pe_str (pe_call GN hr2 rfl gN FN.kp bN .nil pass0 (pa_cons (pv 0) (pa_cons pe_int pa_nil))) (fun _ _ => rfl)))))
      (pss_cons (ps_set (i := 2) scFigs.nd rfl (.inl rfl) (pe_op op_add_str (pe_ix ix_list (pe_lst (pa_cons pe_str (pa_cons pe_str (pa_cons pe_str (pa_cons pe_str (pa_cons pe_str (pa_cons pe_str (pa_cons pe_str pa_nil)))))))) (pe_call GN hr2 rfl gN FN.kp bN .nil pass0 (pa_cons (pv 0) (pa_cons pe_int pa_nil))) (fun _ _ => rfl)) (pv 2)))
      (pss_cons (ps_if (pt_cmpR op_eq (pe_call GN hr2 rfl gN FN.kp bN .nil pass0 (pa_cons (pv 0) (pa_cons pe_int pa_nil))) pe_int (nomark _))
          (pss_cons (ps_set (i := 3) scFigs.nd rfl (.inl rfl) (pe_call GN hr2 rfl gN FN.kp bN .nil pass0 (pa_cons (pv 0) (pa_cons (pe_op op_add (pe_callB call_len rfl B.l PySem.boot_len (pa_cons (pv 2) pa_nil)) pe_int) pa_nil))))
            (pss_one (ps_set (i := 2) scFigs.nd rfl (.inl rfl) (pe_op op_add_str (pe_op op_add_str (pe_slice sl_str (pv 2) po_none (po_some (pv 3))) (pe_call GS hr rfl gS FS.kp bS .nil pass0 (pa_cons (pv 0) pa_nil))) (pe_slice sl_str (pv 2) (po_some (pv 3)) po_none))))) pss_nil)
      (pss_one (ps_ret (pv 2))))))), ?_⟩
    dsimp only [cxOf]
    refine ⟨_, rfl, d, 8, n, rfl, dr, by decide, by decide, by omega, fun v1 Ha p1 q1 dra ba => ?_⟩
    refine ⟨(by show 8 ≤ sizeLine; decide), fun l1 k1 => ?_⟩
    obtain ⟨s1, e1⟩ := nxo (o := .lst [.int 1, .int 2, .int 3, .int 4, .int 5, .int 5, .int 6, .int v1]) k1
    have kp1 : Kp d H (upd Ha l1 (.lst [.int 1, .int 2, .int 3, .int 4, .int 5, .int 5, .int 6, .int v1])) := ba.kp.trans (Same.kp s1)
    have dr1 := dra.same s1
    refine ⟨_, rfl, d, 8, _, rfl, dr1, by decide, by decide, by omega, fun v3 Hc p3 q3 drc bc => ?_⟩
    obtain ⟨x, hx, hat⟩ := at_list (xs := [.int 1, .int 2, .int 3, .int 4, .int 5, .int 5, .int 6, .int v1]) p3 q3
    have hm : ∃ m : Nat, x = .int m ∧ m ≤ 7 := by
      simp only [List.mem_cons, List.not_mem_nil, or_false] at hx
      rcases hx with e | e | e | e | e | e | e | e
      · exact ⟨1, e, by decide⟩
      · exact ⟨2, e, by decide⟩
      · exact ⟨3, e, by decide⟩
      · exact ⟨4, e, by decide⟩
      · exact ⟨5, e, by decide⟩
      · exact ⟨5, e, by decide⟩
      · exact ⟨6, e, by decide⟩
      · exact ⟨v1.toNat, by rw [e, Int.toNat_of_nonneg p1], by omega⟩
    obtain ⟨m, rfl, hm⟩ := hm
    have kpc := kp1.trans bc.kp
    refine ⟨l1, _, _, _, rfl, rfl, .of (bc.kp.lst dr1 e1), hat, ?_⟩
    clear hat hx p3 q3 bc dr1 kp1 s1 e1 k1 ba dra
    refine gName_go ?_
    dsimp only
    refine asg_go ⟨⟨_, rfl⟩, ?_⟩
    refine lc_drR (d := d) (n := n + 1 + 1) (e := 0) (i := 4) (CC := fun c => c = m) (te := tOp rIxS (tC (.str fig)) (tCall spNext [] E0 (tCons (tVar 0) (tCons (tC (.int 10)) tNil)))) (σ := [some (.ref d), some (.int (m : Nat)), none, none, none]) (fun R h => ⟨_, rfl, h m Hc (by omega) rfl drc (Kp.refl _)⟩) (Nat.lt_of_sub_eq_succ rfl)
      (fun k H1 H' Q' hk kpa dra dr' kp' q' => ?_) fun D H' cs nD dD hl hl1 ha dr' kp' eD => ?_
    · refine ⟨_, rfl, d, 10, _, rfl, dr', by decide, by decide, by omega, fun v H'' h0 h1 dr'' bt => ?_⟩
      obtain ⟨c, hc, hat⟩ := at_sign (z := fig) h0 (by rw [show fig.length = 10 by decide +kernel]; exact h1)
      exact ⟨fig, v, c, rfl, rfl, by decide +kernel, hat, q' c H'' (fig_asc c hc) dr'' bt.kp⟩
    · refine ⟨"", D, cs.map sg, rfl, rfl, .inl (.of eD), (by rw [join_sum]; omega), ?_⟩
      have shw : Sh 7 (Txt.join "" (cs.map sg)) := (sh_join ha).mono (by omega)
      generalize Txt.join "" (cs.map sg) = w0 at shw ⊢
      refine gName_go ?_
      try dsimp only
      refine ⟨(by show 7 ≤ sizeLine; decide), fun l2 k2 => ?_⟩
      obtain ⟨s2, e2⟩ := nxo (o := .lst (pre7.map V.str)) k2
      have dr2 := dr'.same s2
      have kp2 : Kp d H (upd H' l2 (.lst (pre7.map V.str))) := kpc.trans (kp'.trans (Same.kp s2))
      refine ⟨_, rfl, d, 7, _, rfl, dr2, by decide, by decide, by omega, fun v4 Hd p4 q4 drd bd => ?_⟩
      obtain ⟨x, hx, hat⟩ := at_list (xs := pre7.map V.str) p4 q4
      obtain ⟨y, hy, rfl⟩ := List.mem_map.mp hx
      have shy := sh_pre7 y hy
      have kpd := kp2.trans bd.kp
      refine ⟨l2, _, _, _, rfl, rfl, .of (bd.kp.lst dr2 e2), hat, ?_⟩
      have ly := shy.len
      have lw := shw.len
      refine ⟨_, rfl, y, w0, rfl, rfl, Nat.le_of_lt (len20k (by omega)), ?_⟩
      have sh1 := shy.app shw
      generalize y ++ w0 = w1 at sh1 ⊢
      clear hat hx hy shy shw ly lw
      refine gName_go ?_
      try dsimp only
      refine ⟨_, rfl, d, 6, _, rfl, drd, by decide, by decide, by omega, fun v5 He p5 q5 dre be => ⟨rfl, _, rfl, ?_⟩⟩
      have kpe := kpd.trans be.kp
      have l1' := sh1.len
      refine ite2 (fun h5 => ?_) (fun h5 => ?_)
      · refine ⟨_, rfl, _, rfl, .str w1, w1.length, rfl, ⟨Nat.le_of_lt (len20k (by omega)), rfl⟩, _, _, rfl, rfl, d, _, _, rfl, dre, by omega, by omega, by omega, fun v6 Hf p6 q6 drf bf => ?_⟩
        have c1 := sh1.cut none (some v6)
        have c2 := sh1.cut (some v6) none
        refine ⟨_, rfl, _, rfl, v6, rfl, w1, rfl, Nat.le_of_lt (len20k (by omega)), _, rfl, d, _, rfl, drf, by omega, fun c Hg hc drg kg => ?_⟩
        have l2 := c1.len
        have l3 := c2.len
        refine ⟨_, _, rfl, rfl, Nat.le_of_lt (len20k (by show _ + 1 ≤ _; omega)), ?_⟩
        have sh3 := c1.app (sh_sg hc)
        have l4 := sh3.len
        refine ⟨_, rfl, _, rfl, v6, rfl, w1, rfl, Nat.le_of_lt (len20k (by omega)), _, _, rfl, rfl, Nat.le_of_lt (len20k (Nat.le_trans (Nat.add_le_add l4 l3) (by decide))), ?_⟩
        exact ⟨_, rfl, q _ Hg ((sh3.app c2).mono (by decide)) (drg.mono (by omega)) (kpe.trans (bf.kp.trans kg))⟩
      · exact ⟨_, rfl, q _ He (sh1.mono (by decide)) (dre.mono (by omega)) kpe⟩
end
end Pb

namespace Pb
open PySem PySem.Spec PyProof.Rows L2 TL
/-! ### _law_rows_right -/
def rowD (row : List (List Nat)) : PyData := .list (row.map fun y => .str (ofL y))
def rowsD (rows : List (List (List Nat))) : PyData := .list (rows.map rowD)
theorem dp_row {K : PySem.W.Frag} {H : Hp} {a : Addr} {row : List (List Nat)} (e : H a = some (.lst (wV row))) : Dp K H (.ref a) (rowD row) := by
  have e2 : wV row = (row.map ofL).map V.str := by
    unfold wV
    rw [List.map_map]
    rfl
  rw [e2] at e
  have := dp_strs (K := K) (row.map ofL) e
  rw [List.map_map] at this
  exact this
theorem dp_rows {K : PySem.W.Frag} {H : Hp} {r : Addr} {as : List Addr} {rows : List (List (List Nat))} (h : RowsAt H as rows) (e : H r = some (.lst (as.map V.ref))) : Dp K H (.ref r) (rowsD rows) := by
  refine .lst (.of e) ?_
  clear e
  induction as generalizing rows with
  | nil =>
    cases rows with
    | nil => exact .nil
    | cons a r => exact absurd h.1 (by simp)
  | cons a as ih =>
    cases rows with
    | nil => exact absurd h.1 (by simp)
    | cons row rows =>
      refine .cons (dp_row (h.2 0 a row rfl rfl)) (ih ⟨by have := h.1; simp at this; exact this, fun i b r h1 h2 => h.2 (i + 1) b r h1 h2⟩)
theorem shp_rows {rows : List (List (List Nat))} (h : ∀ row ∈ rows, ∀ y ∈ row, ∀ c ∈ y, c < 128) : SeqAt.shaped (rowsD rows) = true := by
  have a : PyData.canLay0 (rowsD rows) = true := lay_all _ fun d hd => by
    obtain ⟨row, hr, e⟩ := List.mem_map.mp hd
    rw [← e]
    refine lay_all _ fun d hd => ?_
    obtain ⟨y, hy, e⟩ := List.mem_map.mp hd
    rw [← e]
    exact lay_str (h row hr y hy)
  have b : (rowsD rows).depth ≤ 64 := by
    have : PyData.depthAll (rows.map rowD) ≤ 1 := depth_all _ fun d hd => by
      obtain ⟨row, hr, e⟩ := List.mem_map.mp hd
      rw [← e]
      show PyData.depthAll (row.map fun y => .str (ofL y)) + 1 ≤ 1
      have : PyData.depthAll (row.map fun y => .str (ofL y)) ≤ 0 := depth_all _ fun d hd => by
        obtain ⟨y, hy, e⟩ := List.mem_map.mp hd
        rw [← e]
        exact Nat.le_refl _
      omega
    show PyData.depthAll (rows.map rowD) + 1 ≤ 64
    omega
  unfold SeqAt.shaped
  rw [a, decide_eq_true b]
  rfl
theorem ow_len (w : List Nat) : (ow w).length ≤ 1 := by
  unfold ow
  split <;> simp
theorem prt_rowlen : ∀ (t : List Nat) (cur : List (List Nat)) (w : List Nat), ∀ row ∈ prt cur w t, row.length ≤ cur.length + t.length + 1
  | [], cur, w, row, hr => by
    unfold prt at hr
    rw [List.mem_singleton] at hr
    rw [hr, List.length_append]
    have := ow_len w
    simp only [List.length_nil]
    omega
  | c :: r, cur, w, row, hr => by
    have ol := ow_len w
    unfold prt at hr
    split at hr
    · rcases List.mem_cons.mp hr with h | h
      · rw [h, List.length_append]
        simp only [List.length_cons]
        omega
      · have := prt_rowlen r [] [] row h
        simp only [List.length_cons, List.length_nil] at this ⊢
        omega
    · split at hr
      · have := prt_rowlen r _ [] row hr
        rw [List.length_append] at this
        simp only [List.length_cons]
        omega
      · have := prt_rowlen r cur _ row hr
        simp only [List.length_cons]
        omega
abbrev sRowsR : Stmt := top 38
abbrev nRowsR : List Str := ["_law_draw", "_law_signs", "_law_turn", "_law_text_here", "_law_found"]
theorem scRowsR : FnScope nRowsR ["_law_draw"] (defScope sRowsR) := ⟨rfl, rfl, rfl, by decide +kernel, rfl, by decide +kernel, by decide +kernel⟩
def spRight : Sp := fun vs H Q _ => ∃ (d : Addr) (n : Nat), vs = [.ref d] ∧ Dr H d n ∧ n < 2 ^ 37 ∧ ∀ (H' : Hp), Dr H' d (n + 100) → Kp d H H' → Q (.bl true) H'
section
variable {P : Program} {w : World} {K : PySem.W.Frag} {mg : Str → Option Value} {base : Heap} {f : Addr} {fd : FuncData}
theorem ok_rowsR {fN fS fR fP : Addr} {dN dS dR dP : FuncData} (F : FnD K "_law_rows_right" sRowsR [] f fd) (B : B0 mg) (gR : mg "range" = none) (FN : FnP K "_law_next" sNext fN dN) (gN : mg "_law_next" = some (.ref fN)) (GN : FnOk P w K mg base CX0 2 fN dN ["_law_draw", "_law_many"] spNext)
    (FS : FnD K "_law_sign" sSign [] fS dS) (gS : mg "_law_sign" = some (.ref fS)) (GS : FnOk P w K mg base CX0 3 fS dS ["_law_draw"] spSign)
    (FR : FnD K "rows_of" sRows [] fR dR) (gRo : mg "rows_of" = some (.ref fR)) (GR : FnOk P w K mg base CX0 1 fR dR ["text"] spRows)
    (FP : FnD K "_law_parted" sPart [] fP dP) (gP : mg "_law_parted" = some (.ref fP)) (GP : FnOk P w K mg base CX0 1 fP dP ["_law_text_here"] spRows) : FnOk P w K mg base CX0 4 f fd ["_law_draw"] spRight := by
  have bN : Binds K dN ["_law_draw", "_law_many"] [] := FN.bindsN fun _ _ _ _ _ _ us hl => match us, hl with | [_, _], _ => rfl
  have bS : Binds K dS ["_law_draw"] [] := FS.bindsN fun _ _ _ _ _ _ us hl => match us, hl with | [_], _ => rfl
  have bR : Binds K dR ["text"] [] := FR.bindsN fun _ _ _ _ _ _ us hl => match us, hl with | [_], _ => rfl
  have bP : Binds K dP ["_law_text_here"] [] := FP.bindsN fun _ _ _ _ _ _ us hl => match us, hl with | [_], _ => rfl
  refine F.ok scRowsR (fun vs H Q E h => ?_) (fun cdv A outer s H vs Q E hr h => ?_)
  · obtain ⟨d, n, rfl, _⟩ := h
    rfl
  · obtain ⟨d, n, rfl, dr, hn, q⟩ := h
    have hr2 := hr.mono (show 2 ≤ 3 by decide)
    have hr1 := hr.mono (show 1 ≤ 3 by decide)
    refine ⟨_, PSs.nox (pss_cons (ps_set (i := 1) scRowsR.nd rfl (.inr rfl) (pe_lst (pa_cons (pe_call GS hr rfl gS FS.kp bS .nil pass0 (pa_cons (pv 0) pa_nil)) (pa_cons pe_str (pa_cons pe_str (pa_cons pe_str (pa_cons pe_str (pa_cons pe_str (pa_cons pe_str (pa_cons pe_str (pa_cons (pe_call GS hr rfl gS FS.kp bS .nil pass0 (pa_cons (pv 0) pa_nil)) pa_nil)))))))))))
      (pss_cons (ps_set (i := 3) scRowsR.nd rfl (.inl rfl) (pe_join pe_str (pe_lc (own := [("_law_turn", 2)]) (g := gName 2) (tt := tYes) rfl scRowsR.nd (pi_range1 rfl gR (pa_cons (pe_call GN hr2 rfl gN FN.kp bN .nil pass0 (pa_cons (pv 0) (pa_cons pe_int pa_nil))) pa_nil)) (blkOk_by (N := nRowsR) (sc := defScope sRowsR) (by decide +kernel))
          (fun _ _ _ _ _ => pg_name (i := 2) scRowsR.nd rfl (.inl rfl)) (fun _ _ _ _ _ => pts_nil) (te := tOp (rIxL K) (tVar 1) (tCall spNext [] E0 (tCons (tVar 0) (tCons (tC (.int 9)) tNil)))) (fun _ _ _ _ _ => pe_ix ix_list (pv 1) (pe_call GN hr2 rfl gN FN.kp bN .nil pass0 (pa_cons (pv 0) (pa_cons pe_int pa_nil))) (fun _ _ => rfl)))))
      (pss_cons (ps_for PassesOwn.never rfl (pi_range1 rfl gR (pa_cons pe_int pa_nil)) (pg_name (i := 2) scRowsR.nd rfl (.inl rfl))
        (pss_cons (ps_set (i := 4) scRowsR.nd rfl (.inl rfl) (pe_call GR hr1 rfl gRo FR.kp bR .nil pass0 (pa_cons (pv 3) pa_nil)))
        (pss_cons (ps_if (PW.pt (pw_or (pt_not (pt_val (pe_callB call_isi rfl B.i boot_isinstance (pa_cons (pv 4) (pa_cons (pe_bltn (v := .ty "list") rfl B.li (show bootBuiltins "list" = some (.type "list") by decide +kernel) rfl) pa_nil)))))
            (pw_or1 (pt_cmpR (op_neD hr.units) (pv 4) (pe_call GP hr1 rfl gP FP.kp bP .nil pass0 (pa_cons (pv 3) pa_nil)) (nomark _))))) (pss_one (ps_ret pe_bl)) pss_nil)
        (pss_cons (ps_expr (pe_bm PySem.F.plainAttrs_list PySem.F.slot_list_append PySem.F.type_list_append mt_append (pe_ix ix_list (pv 4) (pe_call GN hr2 rfl gN FN.kp bN .nil pass0 (pa_cons (pv 0) (pa_cons (pe_callB call_len_seq rfl B.l PySem.boot_len (pa_cons (pv 4) pa_nil)) pa_nil))) (fun _ _ => rfl)) (pa_cons pe_str pa_nil)))
        (pss_one (ps_expr (pe_bm PySem.F.plainAttrs_list PySem.F.slot_list_append PySem.F.type_list_append mt_append (pv 4) (pa_cons pe_str pa_nil))))))))
      (pss_one (ps_ret pe_bl))))), ?_⟩
    dsimp only [cxOf]
    refine ⟨_, rfl, d, n, rfl, dr, by omega, fun c1 Ha h1 dra ka => ?_⟩
    refine ⟨_, rfl, d, n + 1, rfl, dra, by omega, fun c2 Hb h2 drb kb => ?_⟩
    refine ⟨(by show 9 ≤ sizeLine; decide), fun l1 k1 => ?_⟩
    have nine : [V.str ⟨#[c1]⟩, .str "-", .str "7", .str " ", .str "\n", .str " ", .str "(", .str "\n", .str ⟨#[c2]⟩] = ([c1, 45, 55, 32, 10, 32, 40, 10, c2].map sg).map V.str := rfl
    have n128 : ∀ c ∈ [c1, 45, 55, 32, 10, 32, 40, 10, c2], c < 128 := fun c hc => by
      simp only [List.mem_cons, List.not_mem_nil, or_false] at hc
      omega
    have n9 : [c1, 45, 55, 32, 10, 32, 40, 10, c2].length = 9 := rfl
    rw [nine]
    generalize [c1, 45, 55, 32, 10, 32, 40, 10, c2] = nn at n128 n9
    clear nine
    obtain ⟨s1, e1⟩ := nxo (o := .lst ((nn.map sg).map V.str)) k1
    have kp1 : Kp d H (upd Hb l1 (.lst ((nn.map sg).map V.str))) := ka.trans (kb.trans (Same.kp s1))
    have dr1 := drb.same s1
    generalize upd Hb l1 (.lst ((nn.map sg).map V.str)) = H1 at s1 e1 kp1 dr1 ⊢
    refine gName_go ?_
    try dsimp only
    refine asg_go ⟨⟨_, rfl⟩, ?_⟩
    refine lc_drR (d := d) (n := n + 1 + 1) (e := 1) (i := 2) (CC := fun c => c ≤ 39) (te := tOp (rIxL K) (tVar 1) (tCall spNext [] E0 (tCons (tVar 0) (tCons (tC (.int 9)) tNil)))) (σ := [some (.ref d), some (.ref l1), none, none, none]) (fun R h => ?_) (Nat.lt_of_sub_eq_succ rfl)
      (fun k H2 H' Q' hk kpa dra dr' kp' q' => ?_) fun D H' cs nD dD hl hl1 ha dr' kp' eD => ?_
    · refine ⟨_, rfl, d, 40, _, rfl, dr1, by decide, by decide, by omega, fun v H' h0 h1 dr' bt => ?_⟩
      obtain ⟨c, rfl⟩ : ∃ c : Nat, v = (c : Int) := ⟨_, (Int.toNat_of_nonneg h0).symm⟩
      exact h c H' (by omega) (by show c ≤ 39; omega) dr' bt.kp
    · refine ⟨_, rfl, _, rfl, d, 9, _, rfl, dr', by decide, by decide, by omega, fun v H'' h0 h1 dr'' bt => ?_⟩
      obtain ⟨x, hx, hat⟩ := at_list (xs := (nn.map sg).map V.str) h0 (by rw [List.length_map, List.length_map, n9]; exact h1)
      rw [List.map_map] at hx
      obtain ⟨c, hc, rfl⟩ := List.mem_map.mp hx
      exact ⟨l1, _, _, _, rfl, rfl, .of (bt.kp.lst dr' (kp'.lst dra (kpa.lst dr1 e1))), hat, q' c H'' (n128 c hc) dr'' bt.kp⟩
    · refine ⟨"", D, cs.map sg, rfl, rfl, .inl (.of eD), (by rw [join_sum]; omega), ?_⟩
      have shw : Sh 39 (Txt.join "" (cs.map sg)) := (sh_join ha).mono hl
      generalize Txt.join "" (cs.map sg) = z at shw ⊢
      have pl := shw.pl (by decide)
      have zl := shw.2
      have rl := prt_len (tl z) [] []
      have rne := prt_ne (tl z) [] []
      have rlen := prt_rowlen (tl z) [] []
      have rasc : SeqAt.shaped (rowsD (rowsN (tl z))) = true := shp_rows (prt_mem (tl z) [] [] shw.1 (fun _ h => nomatch h) (fun _ h => nomatch h))
      refine gName_go ?_
      try dsimp only
      refine ⟨_, rfl, by decide, by decide, for_range (lo := 0) (n := _) (fun i σ Hx => ∃ y2 y4, σ = [some (.ref d), some (.ref l1), y2, some (.str z), y4] ∧ Dr Hx d (n + 60 + i) ∧ Kp d H Hx) ⟨_, _, rfl, dr'.mono (by omega), kp1.trans kp'⟩ (fun i σ Hx hi y => ?_) fun σ Hx y => ?_⟩
      · obtain ⟨y2, y4, rfl, drx, kx⟩ := y
        have hi2 : i < 2 := hi
        refine ⟨_, rfl, z, rfl, pl.sz, fun Hy r as sy nr fr nd er rows => ?_⟩
        refine ⟨_, rfl, .ref r, _, _, _, _, rfl, .ty "list", .base (.lst er), kit_ty (show kitB "list" "list" = some true by decide +kernel), _, rfl, iteF ?_⟩
        refine ⟨_, rfl, _, rfl, z, rfl, pl.sz, fun Hz r2 as2 sz nr2 fr2 nd2 er2 rows2 => ?_⟩
        refine ⟨_, _, dp_rows (rows.same sz) (sz _ _ er), dp_rows rows2 er2, rasc, rasc, _, rfl, ?_⟩
        rw [SeqAt.eqv_refl _ (SeqAt.canLay_of_shaped rasc)]
        refine iteF ?_
        have syz := sy.trans sz
        have drz := drx.same syz
        have al : as.length = (rowsN (tl z)).length := rows.1
        have al0 : 0 < as.length := by
          rw [al]
          exact List.length_pos_iff.mpr rne
        have al1 : as.length ≤ 40 := by
          rw [al]
          exact Nat.le_trans rl (by omega)
        refine ⟨_, rfl, _, rfl, _, rfl, r, _, rfl, .inl (.of (sz _ _ er)), d, _, _, rfl, drz, by rw [List.length_map]; omega, by rw [List.length_map]; omega, by omega, fun v Hw h0 h1 drw bw => ?_⟩
        obtain ⟨x, hx, hat⟩ := at_list (xs := as.map V.ref) h0 h1
        obtain ⟨a, hma, rfl⟩ := List.mem_map.mp hx
        obtain ⟨row, hrow, ea⟩ := rows.mem hma
        have ew := bw.kp.lst drz (sz _ _ ea)
        have erw := bw.kp.lst drz (sz _ _ er)
        have ra : r ≠ a := fun e => by
          rw [e, ew] at erw
          have e3 : wV row = as.map V.ref := HO.lst.inj (Option.some.inj erw)
          have hm : V.ref a ∈ wV row := by
            rw [e3]
            exact hx
          unfold wV at hm
          obtain ⟨y, _, ey⟩ := List.mem_map.mp hm
          cases ey
        refine ⟨r, _, _, _, rfl, rfl, .of erw, hat, .inl ⟨rfl, _, .of ew⟩, a, _, _, rfl, rfl, ew, ?_, ?_⟩
        · unfold wV
          rw [List.length_map]
          have := rlen row hrow
          simp only [List.length_nil] at this
          exact len20k (by omega)
        have wvs : wV row = (row.map ofL).map V.str := by
          unfold wV
          rw [List.map_map]
          rfl
        have drq := drw.updL (o := .lst (wV row ++ [.str "more"])) ew (by rw [wvs]; exact strs_nint)
        have erq : (upd Hw a (.lst (wV row ++ [.str "more"]))) r = some (.lst (as.map V.ref)) := by
          rw [upd_ne ra]
          exact erw
        refine ⟨_, rfl, .inl ⟨rfl, _, .of erq⟩, r, _, _, rfl, rfl, erq, ?_, _, _, rfl, (drq.updL erq refs_nint).mono (by omega), fun b o nb e => ?_⟩
        · rw [List.length_map]
          exact len20k (by omega)
        · have eb := kx b o nb e
          rw [upd_ne (ne_none eb nr), upd_ne (ne_none eb (fr a hma))]
          exact bw.kp b o nb (syz _ _ eb)
      · obtain ⟨y2, y4, rfl, drx, kx⟩ := y
        exact q Hx (drx.mono (by show n + 60 + (2 : Int).toNat ≤ n + 100; simp)) kx
end
end Pb

namespace Pb
open PySem PySem.Spec PyProof.Rows L2 TL
/-! ### _law_wholes_right -/
abbrev sWhR : Stmt := top 34
abbrev nWhR : List Str := ["_law_draw", "_law_least", "_law_most", "_law_some", "_law_thing", "_law_found", "_law_due"]
theorem scWhR : FnScope nWhR ["_law_draw"] (defScope sWhR) := ⟨rfl, rfl, rfl, by decide +kernel, rfl, by decide +kernel, by decide +kernel⟩
def b3 (a b c : Bool) : PyData := .list [.bool a, .bool b, .bool c]
theorem b3_ok : ∀ a b c, (b3 a b c).showable = true ∧ (b3 a b c).hasDict = false ∧ (b3 a b c).depth ≤ 60 ∧ (b3 a b c).shown.length ≤ sizeLine := by decide +kernel
section
variable {P : Program} {w : World} {K : PySem.W.Frag} {mg : Str → Option Value} {base : Heap} {f : Addr} {fd : FuncData}
theorem ok_whR {fN fW fL fS : Addr} {dN dW dL dS : FuncData} (F : FnD K "_law_wholes_right" sWhR [] f fd) (B : B0 mg) (gRp : mg "repr" = none) (FN : FnP K "_law_next" sNext fN dN) (gN : mg "_law_next" = some (.ref fN)) (GN : FnOk P w K mg base CX0 2 fN dN ["_law_draw", "_law_many"] spNext)
    (FW : FnD K "is_whole" sWhole [.int 0, .int 9999] fW dW) (gW : mg "is_whole" = some (.ref fW)) (GW : FnOk P w K mg base CX0 1 fW dW ["thing", "least", "most"] spWhole)
    (FL : FnD K "_law_is_whole" sLIsWhole [] fL dL) (gL : mg "_law_is_whole" = some (.ref fL)) (GL : FnOk P w K mg base CX0 1 fL dL ["_law_thing", "_law_least", "_law_most"] spWhole)
    (FS : FnD K "_law_said" sSaid [] fS dS) (gS : mg "_law_said" = some (.ref fS)) (GS : FnOk P w K mg base CX0 3 fS dS ["_law_way", "_law_thing"] spSaid) : FnG P w K mg base CX0 4 f fd ["_law_draw"] spRight := by
  have bN : Binds K dN ["_law_draw", "_law_many"] [] := FN.bindsN fun _ _ _ _ _ _ us hl => match us, hl with | [_, _], _ => rfl
  have bL : Binds K dL ["_law_thing", "_law_least", "_law_most"] [] := FL.bindsN fun _ _ _ _ _ _ us hl => match us, hl with | [_, _, _], _ => rfl
  have bS : Binds K dS ["_law_way", "_law_thing"] [] := FS.bindsN fun _ _ _ _ _ _ us hl => match us, hl with | [_, _], _ => rfl
  obtain ⟨ds3, hds3, bW3⟩ := FunD.binds1 (ps := ["thing", "least", "most"]) FW 3 2 (by simp) rfl fun _ _ _ _ _ _ _ us its l1 l2 => match us, its, l1, l2 with | [_, _, _], [_, _], _, _ => ⟨_, rfl, rfl⟩
  obtain ⟨ds2, hds2, bW2⟩ := FunD.binds1 (ps := ["thing", "least", "most"]) FW 2 1 (by simp) rfl fun _ _ _ _ _ _ _ us its l1 l2 => match us, its, l1, l2 with | [_, _], [_, _], _, _ => ⟨_, rfl, rfl⟩
  obtain ⟨ds1, hds1, bW1⟩ := FunD.binds1 (ps := ["thing", "least", "most"]) FW 1 0 (by simp) rfl fun _ _ _ _ _ _ _ us its l1 l2 => match us, its, l1, l2 with | [_], [_, _], _, _ => ⟨_, rfl, rfl⟩
  refine fnG_of F scWhR (fun vs H Q E h => ?_) (fun cdv A outer s H vs Q E gd hr h => ?_)
  · obtain ⟨d, n, rfl, _⟩ := h
    rfl
  · obtain ⟨d, n, rfl, dr, hn, q⟩ := h
    have hr2 := hr.mono (show 2 ≤ 3 by decide)
    have hr1 := hr.mono (show 1 ≤ 3 by decide)
    refine ⟨_, PSs.nox (pss_cons (ps_set (i := 1) scWhR.nd rfl (.inl rfl) (pe_op op_sub (pe_call GN hr2 rfl gN FN.kp bN .nil pass0 (pa_cons (pv 0) (pa_cons pe_int pa_nil))) pe_int))
      (pss_cons (ps_set (i := 2) scWhR.nd rfl (.inl rfl) (pe_op op_sub (pe_op op_add (pv 1) (pe_call GN hr2 rfl gN FN.kp bN .nil pass0 (pa_cons (pv 0) (pa_cons pe_int pa_nil)))) pe_int))
      (pss_cons (ps_set (i := 3) scWhR.nd rfl (.inl rfl) (pe_lst (pa_cons (pv 1) (pa_cons (pv 2) (pa_cons (pe_op op_sub (pv 1) pe_int) (pa_cons (pe_op op_add (pv 2) pe_int) (pa_cons pe_int (pa_cons (pe_op op_pow pe_int pe_int) (pa_cons (pe_un un_neg (pe_op op_pow pe_int pe_int)) (pa_cons pe_int (pa_cons pe_int pa_nil)))))))))))
      (pss_cons (ps_set (i := 4) scWhR.nd rfl (.inl rfl) (pe_ix ix_list (pe_op op_catS (pv 3) (pe_lst (pa_cons pe_non (pa_cons pe_bl (pa_cons pe_bl (pa_cons pe_str (pa_cons (pe_lst (pa_cons pe_int pa_nil)) (pa_cons (pe_tup (pa_cons pe_int pa_nil)) (pa_cons pe_dnewK pa_nil))))))))) (pe_call GN hr2 rfl gN FN.kp bN .nil pass0 (pa_cons (pv 0) (pa_cons pe_int pa_nil))) (fun _ _ => rfl)))
      (pss_cons (ps_set (i := 5) scWhR.nd rfl (.inl rfl) (pe_lst (pa_cons (pe_call GW hr1 rfl gW FW.kp bW3 hds3 pass0 (pa_cons (pv 4) (pa_cons (pv 1) (pa_cons (pv 2) pa_nil)))) (pa_cons (pe_call GW hr1 rfl gW FW.kp bW2 hds2 pass0 (pa_cons (pv 4) (pa_cons (pv 1) pa_nil))) (pa_cons (pe_call GW hr1 rfl gW FW.kp bW1 hds1 pass0 (pa_cons (pv 4) pa_nil)) pa_nil)))))
      (pss_cons (ps_set (i := 6) scWhR.nd rfl (.inl rfl) (pe_lst (pa_cons (pe_call GL hr1 rfl gL FL.kp bL .nil pass0 (pa_cons (pv 4) (pa_cons (pv 1) (pa_cons (pv 2) pa_nil)))) (pa_cons (pe_call GL hr1 rfl gL FL.kp bL .nil pass0 (pa_cons (pv 4) (pa_cons (pv 1) (pa_cons pe_int pa_nil)))) (pa_cons (pe_call GL hr1 rfl gL FL.kp bL .nil pass0 (pa_cons (pv 4) (pa_cons pe_int (pa_cons pe_int pa_nil)))) pa_nil)))))
      (pss_one (ps_ret (pe_and (pe_cmpR op_eq (pe_callB (call_repr gd hr) rfl gRp boot_repr (pa_cons (pv 5) pa_nil)) (pe_callB (call_repr gd hr) rfl gRp boot_repr (pa_cons (pv 6) pa_nil)) (nomark _))
        (pe_one (pe_cmpR op_eq (pe_call GS hr rfl gS FS.kp bS .nil pass0 (pa_cons pe_int (pa_cons (pv 4) pa_nil))) (pe_ix ix_list (pe_lst (pa_cons pe_str (pa_cons pe_str pa_nil))) (pe_callTy call_int1 rfl B.n PyProof.Rows.boot_int (pa_cons (pe_call GL hr1 rfl gL FL.kp bL .nil pass0 (pa_cons (pv 4) (pa_cons pe_int (pa_cons pe_int pa_nil)))) pa_nil)) (fun _ _ => rfl)) (nomark _)))))))))))), ?_⟩
    dsimp only [cxOf]
    refine ⟨_, rfl, d, 41, n, rfl, dr, by decide, by decide, by omega, fun v1 Ha p1 q1 dra ba => ?_⟩
    refine ⟨_, _, rfl, rfl, ?_⟩
    refine gName_go ?_
    try dsimp only
    generalize v1 - 20 = least
    refine ⟨_, rfl, _, rfl, d, 9, _, rfl, dra, by decide, by decide, by omega, fun v2 Hb p2 q2 drb bb => ?_⟩
    refine ⟨_, _, rfl, rfl, _, _, rfl, rfl, ?_⟩
    refine gName_go ?_
    try dsimp only
    generalize least + v2 - 1 = most
    have kb : Kp d H Hb := ba.kp.trans bb.kp
    refine ⟨_, rfl, _, rfl, _, rfl, _, _, rfl, rfl, _, rfl, _, _, rfl, rfl, _, _, rfl, rfl, ⟨by decide, by decide, by decide⟩, _, _, rfl, rfl, ⟨by decide, by decide, by decide⟩, _, rfl, (by show 9 ≤ sizeLine; decide), fun l1 k1 => ?_⟩
    obtain ⟨s1, e1⟩ := nxo (o := .lst [.int least, .int most, .int (least - 1), .int (most + 1), .int 0, .int (10 ^ (30 : Int).toNat), .int (-(10 ^ (30 : Int).toNat)), .int 9999, .int 10000]) k1
    have d1 := drb.same s1
    have kp1 : Kp d H (upd Hb l1 (.lst [.int least, .int most, .int (least - 1), .int (most + 1), .int 0, .int (10 ^ (30 : Int).toNat), .int (-(10 ^ (30 : Int).toNat)), .int 9999, .int 10000])) := kb.trans (Same.kp s1)
    generalize upd Hb l1 (.lst [.int least, .int most, .int (least - 1), .int (most + 1), .int 0, .int (10 ^ (30 : Int).toNat), .int (-(10 ^ (30 : Int).toNat)), .int 9999, .int 10000]) = H1 at s1 e1 d1 kp1 ⊢
    refine gName_go ?_
    try dsimp only
    refine ⟨_, rfl, (by show 1 ≤ sizeLine; decide), fun l2 k2 => ⟨(by show 1 ≤ sizeLine; decide), fun t2 k3 => fun e2 k4 => ⟨(by show 7 ≤ sizeLine; decide), fun l3 k5 => ?_⟩⟩⟩
    obtain ⟨s2, f2⟩ := nxo (o := .lst [.int 1]) k2
    generalize upd H1 l2 (.lst [.int 1]) = H2 at s2 f2 k3 k4 k5 ⊢
    obtain ⟨s3, f3⟩ := nxo (o := .tup [.int 1]) k3
    generalize upd H2 t2 (.tup [.int 1]) = H3 at s3 f3 k4 k5 ⊢
    obtain ⟨s4, f4⟩ := nxo (o := .dK []) k4
    generalize upd H3 e2 (.dK []) = H4 at s4 f4 k5 ⊢
    obtain ⟨s5, f5⟩ := nxo (o := .lst [.non, .bl true, .bl false, .str "1", .ref l2, .ref t2, .ref e2]) k5
    generalize upd H4 l3 (.lst [.non, .bl true, .bl false, .str "1", .ref l2, .ref t2, .ref e2]) = H5 at s5 f5 ⊢
    refine ⟨l1, l3, _, _, rfl, rfl, .of (s5 _ _ (s4 _ _ (s3 _ _ (s2 _ _ e1)))), .of f5, (by show 16 ≤ sizeLine; decide), fun l4 k6 => ?_⟩
    obtain ⟨s6, f6⟩ := nxo (o := .lst ([.int least, .int most, .int (least - 1), .int (most + 1), .int 0, .int (10 ^ (30 : Int).toNat), .int (-(10 ^ (30 : Int).toNat)), .int 9999, .int 10000] ++ [.non, .bl true, .bl false, .str "1", .ref l2, .ref t2, .ref e2])) k6
    generalize upd H5 l4 (.lst ([.int least, .int most, .int (least - 1), .int (most + 1), .int 0, .int (10 ^ (30 : Int).toNat), .int (-(10 ^ (30 : Int).toNat)), .int 9999, .int 10000] ++ [.non, .bl true, .bl false, .str "1", .ref l2, .ref t2, .ref e2])) = H6 at s6 f6 ⊢
    have s16 := s2.trans (s3.trans (s4.trans (s5.trans s6)))
    have d6 := d1.same s16
    refine ⟨_, rfl, d, 16, _, rfl, d6, by decide, by decide, by omega, fun v3 Hc p3 q3 drc bc => ?_⟩
    obtain ⟨x, hx, hat⟩ := at_list (xs := [.int least, .int most, .int (least - 1), .int (most + 1), .int 0, .int (10 ^ (30 : Int).toNat), .int (-(10 ^ (30 : Int).toNat)), .int 9999, .int 10000] ++ [.non, .bl true, .bl false, .str "1", .ref l2, .ref t2, .ref e2]) p3 (by show v3 < 16; exact q3)
    have kpc : Kp d H Hc := kp1.trans ((Same.kp s16).trans bc.kp)
    have hed : e2 ≠ d := by
      obtain ⟨kvs, ed⟩ := (d1.same (s2.trans s3)).at
      exact (ne_none ed k4).symm
    have kd : ∃ T, Kd Hc x T := by
      rcases List.mem_append.mp hx with h | h
      · simp only [List.mem_cons, List.not_mem_nil, or_false] at h
        rcases h with h | h | h | h | h | h | h | h | h <;> exact ⟨_, h ▸ Kd.int _⟩
      · simp only [List.mem_cons, List.not_mem_nil, or_false] at h
        rcases h with h | h | h | h | h | h | h
        · exact ⟨_, h ▸ Kd.non⟩
        · exact ⟨_, h ▸ Kd.bl _⟩
        · exact ⟨_, h ▸ Kd.bl _⟩
        · exact ⟨_, h ▸ Kd.str _⟩
        · exact ⟨_, h ▸ Kd.lst (bc.kp.lst d6 (s6 _ _ (s5 _ _ (s4 _ _ (s3 _ _ f2)))))⟩
        · exact ⟨_, h ▸ Kd.tup (bc.kp.tup d6 (s6 _ _ (s5 _ _ (s4 _ _ f3))))⟩
        · exact ⟨_, h ▸ Kd.dic (bc.kp e2 _ hed (s6 _ _ (s5 _ _ f4)))⟩
    have hsz : ∀ z, x = .str z → z.cps.size < sizeLine := fun z e => by
      rcases List.mem_append.mp hx with h | h
      · simp only [List.mem_cons, List.not_mem_nil, or_false] at h
        rcases h with h | h | h | h | h | h | h | h | h <;> (rw [h] at e; cases e)
      · simp only [List.mem_cons, List.not_mem_nil, or_false] at h
        rcases h with h | h | h | h | h | h | h
        · rw [h] at e; cases e
        · rw [h] at e; cases e
        · rw [h] at e; cases e
        · rw [h] at e; cases e; decide +kernel
        · rw [h] at e; cases e
        · rw [h] at e; cases e
        · rw [h] at e; cases e
    obtain ⟨T, kd⟩ := kd
    refine ⟨l4, _, _, _, rfl, rfl, .of (bc.kp.lst d6 f6), hat, ?_⟩
    clear hat hx p3 q3 d6 s16 f6 s6 k6 f5 s5 k5 f4 s4 k4 f3 s3 k3 f2 s2 k2 e1 s1 k1 d1 kp1 bc
    refine gName_go ?_
    try dsimp only
    refine ⟨_, rfl, _, rfl, _, rfl, x, T, least, most, rfl, kd, _, rfl, _, rfl, x, T, least, 9999, rfl, kd, _, rfl, x, T, 0, 9999, rfl, kd, (by show 3 ≤ sizeLine; decide), fun a1 n1 => ?_⟩
    obtain ⟨t1, g1⟩ := nxo (o := .lst [.bl (wholeV x least most), .bl (wholeV x least 9999), .bl (wholeV x 0 9999)]) n1
    generalize upd Hc a1 (.lst [.bl (wholeV x least most), .bl (wholeV x least 9999), .bl (wholeV x 0 9999)]) = Hd at t1 g1 ⊢
    have kd1 := kd.same t1
    refine ⟨_, rfl, _, rfl, _, rfl, x, T, least, most, rfl, kd1, _, rfl, _, rfl, x, T, least, 9999, rfl, kd1, _, rfl, x, T, 0, 9999, rfl, kd1, (by show 3 ≤ sizeLine; decide), fun a2 n2 => ?_⟩
    obtain ⟨t2', g2⟩ := nxo (o := .lst [.bl (wholeV x least most), .bl (wholeV x least 9999), .bl (wholeV x 0 9999)]) n2
    generalize upd Hd a2 (.lst [.bl (wholeV x least most), .bl (wholeV x least 9999), .bl (wholeV x 0 9999)]) = He at t2' g2 ⊢
    have kd2 := kd1.same t2'
    obtain ⟨b1, b2, b3', b4⟩ := b3_ok (wholeV x least most) (wholeV x least 9999) (wholeV x 0 9999)
    refine ⟨_, rfl, a1, b3 (wholeV x least most) (wholeV x least 9999) (wholeV x 0 9999), rfl, .lst (.of (t2' _ _ g1)) (.cons (.bl _) (.cons (.bl _) (.cons (.bl _) .nil))), b1, b2, b3', b4, ?_⟩
    refine ⟨_, rfl, a2, b3 (wholeV x least most) (wholeV x least 9999) (wholeV x 0 9999), rfl, .lst (.of g2) (.cons (.bl _) (.cons (.bl _) (.cons (.bl _) .nil))), b1, b2, b3', b4, rfl, _, rfl, ?_⟩
    rw [decide_eq_true rfl]
    refine iteT ⟨_, rfl, 1, x, T, rfl, kd2, hsz, fun Hf sf => ⟨(by show 2 ≤ sizeLine; decide), fun a3 n3 => ?_⟩⟩
    obtain ⟨t3, g3⟩ := nxo (o := .lst [.str "day", .str "none"]) n3
    generalize upd Hf a3 (.lst [.str "day", .str "none"]) = Hg at t3 g3 ⊢
    refine ⟨_, rfl, x, T, 0, 9999, rfl, (kd2.same sf).same t3, ?_⟩
    have sall := t1.trans (t2'.trans (sf.trans t3))
    have fin := q Hg ((drc.same sall).mono (by omega)) (kpc.trans (Same.kp sall))
    cases e : wholeV x 0 9999 with
    | true =>
      refine .inr ⟨true, rfl, a3, _, _, _, rfl, rfl, .of g3, rfl, rfl, ?_⟩
      rw [show saidT 1 x = "none" by unfold saidT; rw [if_neg (by decide), e]; rfl]
      exact fin
    | false =>
      refine .inr ⟨false, rfl, a3, _, _, _, rfl, rfl, .of g3, rfl, rfl, ?_⟩
      rw [show saidT 1 x = "day" by unfold saidT; rw [if_neg (by decide), e]; rfl]
      exact fin
end
end Pb

namespace Pb
open PySem PySem.Spec PyProof.Rows L2 TL
/-! ### _law_numbers_right -/
/-- a text times a number -/
def rMulT : R2 := fun x y H Q => ∃ (z : Str) (i : Int), x = .str z ∧ y = .int i ∧ MulOk z i ∧ Q (.str (Txt.mul z i)) H
theorem op_mulT {X : Cx} : OpR X (binaryOp .Mult) rMulT := by
  intro pins s σ H x y v u Q I rx ry h
  obtain ⟨z, i, rfl, rfl, ok, q⟩ := h
  obtain ⟨t, rfl⟩ := rx
  obtain ⟨t', rfl⟩ := ry
  exact SB.mul ok fun t' k => ⟨.str _, H, I.tok _, ⟨_, rfl⟩, q⟩
theorem mul_ok {z : Str} {n : Nat} (h1 : 1 ≤ n) (h2 : z.length * n ≤ 20000) (h3 : n ≤ 20000) (h4 : z.length ≤ 20000) : MulOk z (n : Int) := by
  refine ⟨?_, fun _ _ => ?_, fun _ _ => ?_⟩
  · rw [decide_eq_false (by omega), decide_eq_false (by omega)]
    rfl
  · have : ((2 ^ 63 - 1 : Int)) / (n : Int) ≥ 20000 := by
      refine Int.le_ediv_of_mul_le (by omega) ?_
      omega
    omega
  · rw [Int.toNat_natCast]
    unfold Builtin.Str.tooLong
    exact decide_eq_false (Nat.not_lt.mpr (Nat.le_of_lt (len20k (by omega))))
theorem foldl_app (x : Array Nat) : ∀ (n : Nat) (a : Array Nat), ((List.replicate n x).foldl (· ++ ·) a).toList = a.toList ++ (List.replicate n x.toList).flatten
  | 0, a => by simp
  | n + 1, a => by
    rw [List.replicate_succ, List.foldl_cons, foldl_app x n, Array.toList_append, List.replicate_succ, List.flatten_cons, List.append_assoc]
theorem tl_mul {z : Str} {n : Nat} (h : 2 ≤ n) (hz : z.length ≠ 0) : tl (Txt.mul z (n : Int)) = (List.replicate n (tl z)).flatten := by
  unfold Txt.mul
  rw [if_neg (by omega), if_neg (by
    have e1 : ((n : Int) == 1) = false := beq_eq_false_iff_ne.mpr (by omega)
    have e2 : (z.length == 0) = false := beq_eq_false_iff_ne.mpr hz
    rw [e1, e2]
    simp), Int.toNat_natCast]
  show ((List.replicate n z.cps).foldl (· ++ ·) #[]).toList = _
  rw [foldl_app]
  rfl
theorem pl_num {n : Int} (h0 : 0 ≤ n) (h1 : n < 10 ^ 10) : Pl (Str.ofString (toString n)) := by
  refine ⟨?_, Nat.le_trans (PySem.W.KT.len_num h0 h1) (by decide)⟩
  obtain ⟨m, rfl⟩ := Int.eq_ofNat_of_zero_le h0
  intro c hc
  rw [PySem.W.KIN.signs_num] at hc
  obtain ⟨ch, hch, e⟩ := List.mem_map.mp hc
  have r := digit_range (Nat.isDigit_of_mem_toDigits (by decide) (by decide) hch)
  rw [← e]
  omega
theorem numV_bad {z : Str} {c : Nat} (hc : c ∈ tl z) (hb : c ∉ tl fig) (m : Int) : numV z m = .non := by
  unfold numV
  refine if_neg fun h => ?_
  have hf : figL z = false := by
    cases e : figL z with
    | false => rfl
    | true =>
      have := List.all_eq_true.mp e c hc
      exact absurd (of_decide_eq_true this) hb
  have h1 := h.1
  unfold numOk at h1
  rw [hf] at h1
  simp at h1
theorem sev_pl : Pl (Txt.mul "7" 5000) := by
  have e : tl (Txt.mul "7" ((5000 : Nat) : Int)) = (List.replicate 5000 (tl "7")).flatten := tl_mul (by decide) (by decide +kernel)
  have e2 : tl ("7" : Str) = [55] := by decide +kernel
  rw [e2] at e
  refine ⟨fun c hc => ?_, ?_⟩
  · have hc2 : c ∈ tl (Txt.mul "7" ((5000 : Nat) : Int)) := hc
    rw [e] at hc2
    obtain ⟨l, hl, hcl⟩ := List.mem_flatten.mp hc2
    rw [(List.mem_replicate.mp hl).2] at hcl
    rw [List.mem_singleton.mp hcl]
    decide
  · have : (Txt.mul "7" ((5000 : Nat) : Int)).cps.size = (tl (Txt.mul "7" ((5000 : Nat) : Int))).length := Array.length_toList.symm
    show (Txt.mul "7" ((5000 : Nat) : Int)).cps.size ≤ 20000
    rw [this, e, List.length_flatten, List.map_replicate]
    show (List.replicate 5000 1).sum ≤ 20000
    rw [List.sum_replicate_nat]
    decide
abbrev sNumR : Stmt := top 39
abbrev nNumR : List Str := ["_law_draw", "_law_word", "_law_text_here", "_law_most", "_law_one"]
theorem scNumR : FnScope nNumR ["_law_draw", "_law_word", "_law_text_here"] (defScope sNumR) := ⟨rfl, rfl, rfl, by decide +kernel, rfl, by decide +kernel, by decide +kernel⟩
def spNumR : Sp := fun vs H Q _ => ∃ (d : Addr) (wd tx : Str) (n : Nat), vs = [.ref d, .str wd, .str tx] ∧ Dr H d n ∧ n < 2 ^ 37 ∧ Sh 40 wd ∧ Sh 40 tx ∧ ∀ (H' : Hp), Dr H' d (n + 100) → Kp d H H' → Q (.bl true) H'
def ones (wd tx : Str) (m : Int) : List Str := [wd, tx, "", "-", "0", "00", "-1", Str.ofString (toString m), Str.ofString (toString (m + 1)), "9999", "10000", "99999", Txt.mul "7" 5000]
theorem pl_lit : ∀ y ∈ (["", "-", "0", "00", "-1", "9999", "10000", "99999"] : List Str), Pl y := by
  have : ∀ y ∈ (["", "-", "0", "00", "-1", "9999", "10000", "99999"] : List Str), (y.cps.toList.all fun c => decide (c < 128)) = true ∧ y.cps.size ≤ 20000 := by decide +kernel
  intro y hy
  obtain ⟨h1, h2⟩ := this y hy
  exact ⟨fun c hc => of_decide_eq_true (List.all_eq_true.mp h1 c hc), h2⟩
theorem pl_ones {wd tx : Str} {m : Int} (h1 : Pl wd) (h2 : Pl tx) (m0 : 0 ≤ m) (m1 : m < 10 ^ 9) : ∀ y ∈ ones wd tx m, Pl y := by
  intro y hy
  unfold ones at hy
  simp only [List.mem_cons, List.not_mem_nil, or_false] at hy
  rcases hy with e | e | e | e | e | e | e | e | e | e | e | e | e
  · rw [e]; exact h1
  · rw [e]; exact h2
  · rw [e]; exact pl_lit _ (by decide +kernel)
  · rw [e]; exact pl_lit _ (by decide +kernel)
  · rw [e]; exact pl_lit _ (by decide +kernel)
  · rw [e]; exact pl_lit _ (by decide +kernel)
  · rw [e]; exact pl_lit _ (by decide +kernel)
  · rw [e]; exact pl_num m0 (by omega)
  · rw [e]; exact pl_num (by omega) (by omega)
  · rw [e]; exact pl_lit _ (by decide +kernel)
  · rw [e]; exact pl_lit _ (by decide +kernel)
  · rw [e]; exact pl_lit _ (by decide +kernel)
  · rw [e]; exact sev_pl
section
variable {P : Program} {w : World} {K : PySem.W.Frag} {mg : Str → Option Value} {base : Heap} {f : Addr} {fd : FuncData}
theorem ok_numR {fN fU fR fS : Addr} {dN dU dR dS : FuncData} (F : FnD K "_law_numbers_right" sNumR [] f fd) (B : B0 mg) (FN : FnP K "_law_next" sNext fN dN) (gN : mg "_law_next" = some (.ref fN)) (GN : FnOk P w K mg base CX0 2 fN dN ["_law_draw", "_law_many"] spNext)
    (FU : FnD K "number_in" sNum [.int 9999] fU dU) (gU : mg "number_in" = some (.ref fU)) (GU : FnOk P w K mg base CX0 1 fU dU ["word", "most"] spNum)
    (FR : FnD K "_law_read" sRead [] fR dR) (gR : mg "_law_read" = some (.ref fR)) (GR : FnOk P w K mg base CX0 1 fR dR ["_law_word", "_law_most"] spRead)
    (FS : FnD K "_law_same" sSame [] fS dS) (gS : mg "_law_same" = some (.ref fS)) (GS : FnOk P w K mg base CX0 1 fS dS ["_law_found", "_law_due"] spSame) : FnOk P w K mg base CX0 3 f fd ["_law_draw", "_law_word", "_law_text_here"] spNumR := by
  have bN : Binds K dN ["_law_draw", "_law_many"] [] := FN.bindsN fun _ _ _ _ _ _ us hl => match us, hl with | [_, _], _ => rfl
  have bR : Binds K dR ["_law_word", "_law_most"] [] := FR.bindsN fun _ _ _ _ _ _ us hl => match us, hl with | [_, _], _ => rfl
  have bS : Binds K dS ["_law_found", "_law_due"] [] := FS.bindsN fun _ _ _ _ _ _ us hl => match us, hl with | [_, _], _ => rfl
  obtain ⟨ds2, hds2, bU2⟩ := FunD.binds1 (ps := ["word", "most"]) FU 2 1 (by simp) rfl fun _ _ _ _ _ _ _ us its l1 l2 => match us, its, l1, l2 with | [_, _], [_], _, _ => ⟨_, rfl, rfl⟩
  obtain ⟨ds1, hds1, bU1⟩ := FunD.binds1 (ps := ["word", "most"]) FU 1 0 (by simp) rfl fun _ _ _ _ _ _ _ us its l1 l2 => match us, its, l1, l2 with | [_], [_], _, _ => ⟨_, rfl, rfl⟩
  refine F.ok scNumR (fun vs H Q E h => ?_) (fun cdv A outer s H vs Q E hr h => ?_)
  · obtain ⟨d, wd, tx, n, rfl, _⟩ := h
    rfl
  · obtain ⟨d, wd, tx, n, rfl, dr, hn, hw, ht, q⟩ := h
    have hr1 := hr.mono (show 1 ≤ 2 by decide)
    refine ⟨_, PSs.nox (pss_cons (ps_set (i := 3) scNumR.nd rfl (.inl rfl) (pe_ix ix_list (pe_lst (pa_cons (pe_call GN hr rfl gN FN.kp bN .nil pass0 (pa_cons (pv 0) (pa_cons pe_int pa_nil))) (pa_cons pe_int (pa_cons pe_int (pa_cons pe_int (pa_cons (pe_call GN hr rfl gN FN.kp bN .nil pass0 (pa_cons (pv 0) (pa_cons pe_int pa_nil))) (pa_cons pe_int pa_nil)))))))
          (pe_call GN hr rfl gN FN.kp bN .nil pass0 (pa_cons (pv 0) (pa_cons pe_int pa_nil))) (fun _ _ => rfl)))
      (pss_cons (ps_for PassesOwn.never rfl (pi_tup (pe_tup (pa_cons (pv 1) (pa_cons (pv 2) (pa_cons pe_str (pa_cons pe_str (pa_cons pe_str (pa_cons pe_str (pa_cons pe_str (pa_cons (pe_callTy call_str_int rfl B.s PyProof.Rows.boot_str (pa_cons (pv 3) pa_nil)) (pa_cons (pe_callTy call_str_int rfl B.s PyProof.Rows.boot_str (pa_cons (pe_op op_add (pv 3) pe_int) pa_nil)) (pa_cons pe_str (pa_cons pe_str (pa_cons pe_str (pa_cons (pe_op op_mulT pe_str pe_int) pa_nil))))))))))))))) (pg_name (i := 4) scNumR.nd rfl (.inl rfl))
        (pss_cons (ps_if (pt_not (pt_val (pe_call GS hr1 rfl gS FS.kp bS .nil pass0 (pa_cons (pe_call GU hr1 rfl gU FU.kp bU2 hds2 pass0 (pa_cons (pv 4) (pa_cons (pv 3) pa_nil))) (pa_cons (pe_call GR hr1 rfl gR FR.kp bR .nil pass0 (pa_cons (pv 4) (pa_cons (pv 3) pa_nil))) pa_nil))))) (pss_one (ps_ret pe_bl)) pss_nil)
        (pss_one (ps_if (pt_not (pt_val (pe_call GS hr1 rfl gS FS.kp bS .nil pass0 (pa_cons (pe_call GU hr1 rfl gU FU.kp bU1 hds1 pass0 (pa_cons (pv 4) pa_nil)) (pa_cons (pe_call GR hr1 rfl gR FR.kp bR .nil pass0 (pa_cons (pv 4) (pa_cons pe_int pa_nil))) pa_nil))))) (pss_one (ps_ret pe_bl)) pss_nil))))
      (pss_one (ps_ret (pe_and (pe_cmp (pc_isN (pe_call GU hr1 rfl gU FU.kp bU1 hds1 pass0 (pa_cons (pe_op op_add_str (pv 1) pe_str) pa_nil)))) (pe_one (pe_cmp (pc_isN (pe_call GU hr1 rfl gU FU.kp bU1 hds1 pass0 (pa_cons (pe_op op_add_str pe_str (pv 1)) pa_nil)))))))))), ?_⟩
    dsimp only [cxOf]
    refine ⟨_, rfl, d, 100000, n, rfl, dr, by decide, by decide, by omega, fun v1 Ha p1 q1 dra ba => ?_⟩
    refine ⟨_, rfl, d, 30, _, rfl, dra, by decide, by decide, by omega, fun v2 Hb p2 q2 drb bb => ?_⟩
    refine ⟨(by show 6 ≤ sizeLine; decide), fun l1 k1 => ?_⟩
    obtain ⟨s1, e1⟩ := nxo (o := .lst [.int v1, .int 9999, .int 99999, .int 0, .int v2, .int 10000]) k1
    have kp1 : Kp d H (upd Hb l1 (.lst [.int v1, .int 9999, .int 99999, .int 0, .int v2, .int 10000])) := ba.kp.trans (bb.kp.trans (Same.kp s1))
    have dr1 := drb.same s1
    refine ⟨_, rfl, d, 6, _, rfl, dr1, by decide, by decide, by omega, fun v3 Hc p3 q3 drc bc => ?_⟩
    obtain ⟨x, hx, hat⟩ := at_list (xs := [.int v1, .int 9999, .int 99999, .int 0, .int v2, .int 10000]) p3 q3
    have hm : ∃ m : Int, x = .int m ∧ 0 ≤ m ∧ m < 100000 := by
      simp only [List.mem_cons, List.not_mem_nil, or_false] at hx
      rcases hx with e | e | e | e | e | e
      · exact ⟨_, e, p1, q1⟩
      · exact ⟨_, e, by decide, by decide⟩
      · exact ⟨_, e, by decide, by decide⟩
      · exact ⟨_, e, by decide, by decide⟩
      · exact ⟨_, e, p2, by omega⟩
      · exact ⟨_, e, by decide, by decide⟩
    obtain ⟨m, rfl, m0, m1⟩ := hm
    have kpc := kp1.trans bc.kp
    refine ⟨l1, _, _, _, rfl, rfl, .of (bc.kp.lst dr1 e1), hat, ?_⟩
    clear hat hx p3 q3 bc dr1 kp1 s1 e1 k1 ba dra
    refine gName_go ?_
    try dsimp only
    have pw := hw.pl (by decide)
    have lg : ∀ i : Int, 0 ≤ i → i < 200000 → i.natAbs.log2 < 1920 := fun i h0 h1 => by
      by_cases hz : i.natAbs = 0
      · rw [hz]
        decide
      · exact Nat.lt_of_lt_of_le ((Nat.log2_lt hz).mpr (show i.natAbs < 2 ^ 20 by omega)) (by decide)
    refine ⟨_, rfl, _, rfl, _, rfl, m, rfl, lg m m0 (by omega), _, rfl, _, _, rfl, rfl, m + 1, rfl, lg _ (by omega) (by omega), "7", 5000, rfl, rfl, mul_ok (n := 5000) (by decide) (by decide +kernel) (by decide) (by decide +kernel), (by show 13 ≤ sizeLine; decide), fun t kt => ?_⟩
    obtain ⟨s1, e1⟩ := nxo (o := .tup ((ones wd tx m).map V.str)) kt
    have pls := pl_ones pw (ht.pl (by decide)) m0 (show m < 10 ^ 9 by omega)
    have d1 := drc.same s1
    have kp1 : Kp d H (upd Hc t (.tup ((ones wd tx m).map V.str))) := kpc.trans (Same.kp s1)
    rw [show [V.str wd, .str tx, .str "", .str "-", .str "0", .str "00", .str "-1", .str (Str.ofString (toString m)), .str (Str.ofString (toString (m + 1))), .str "9999", .str "10000", .str "99999", .str (Txt.mul "7" 5000)] = (ones wd tx m).map V.str from rfl]
    generalize upd Hc t (.tup ((ones wd tx m).map V.str)) = H1 at s1 e1 d1 kp1 ⊢
    generalize ones wd tx m = os at e1 pls
    refine ⟨t, rfl, ⟨_, .of e1⟩, for_it (walk_tup (K := K) (a := t) (xs := os.map V.str)) (fun i σ H' => Same H1 H' ∧ ∃ y, σ = [some (.ref d), some (.str wd), some (.str tx), some (.int m), y]) ⟨Same.refl _, none, rfl⟩ (fun i σ H' _ pv => .of (pv.1 _ _ e1)) (fun i x σ Hd He hi pv y => ?_) fun σ Hd pv => ?_⟩
    · obtain ⟨sm, y0, rfl⟩ := pv
      obtain ⟨rfl, gx⟩ := y
      rw [List.getElem?_map] at gx
      obtain ⟨z, gz, rfl⟩ := Option.map_eq_some_iff.mp gx
      have pz := pls z (List.mem_of_getElem? gz)
      refine ⟨_, rfl, _, rfl, z, m, rfl, pz.small, fun H2 s2 => ⟨_, rfl, _, rfl, z, m, rfl, pz, fun H3 s3 => ⟨z, m, rfl, _, rfl, iteF ?_⟩⟩⟩
      refine ⟨_, rfl, z, 9999, rfl, pz.small, fun H4 s4 => ⟨_, rfl, z, 9999, rfl, pz, fun H5 s5 => ⟨z, 9999, rfl, _, rfl, iteF ?_⟩⟩⟩
      exact ⟨sm.trans (s2.trans (s3.trans (s4.trans s5))), _, rfl⟩
    · obtain ⟨sm, y0, rfl⟩ := pv
      have lw := hw.len
      have l1 : ("\n" : Str).length = 1 := by decide +kernel
      have l2 : (" " : Str).length = 1 := by decide +kernel
      have t1 : tl (wd ++ ("\n" : Str)) = tl wd ++ [10] := by
        rw [tl_append]
        congr 1
      have t2 : tl ((" " : Str) ++ wd) = [32] ++ tl wd := by
        rw [tl_append]
        congr 1
      have b1 : (wd ++ ("\n" : Str)).cps.size < sizeLine := by
        rw [← Array.length_toList]
        show (tl (wd ++ ("\n" : Str))).length < _
        rw [t1, List.length_append, ← len_tl wd]
        exact len20k (by show wd.length + 1 ≤ _; omega)
      have b2 : ((" " : Str) ++ wd).cps.size < sizeLine := by
        rw [← Array.length_toList]
        show (tl ((" " : Str) ++ wd)).length < _
        rw [t2, List.length_append, ← len_tl wd]
        exact len20k (by show 1 + wd.length ≤ _; omega)
      refine ⟨_, rfl, wd, "\n", rfl, rfl, Nat.le_of_lt (len20k (by rw [l1]; omega)), wd ++ "\n", 9999, rfl, b1, fun H2 s2 => ?_⟩
      rw [numV_bad (c := 10) (by rw [t1]; simp) (by decide +kernel)]
      refine ⟨_, rfl, iteT ⟨_, rfl, " ", wd, rfl, rfl, Nat.le_of_lt (len20k (by rw [l2]; omega)), " " ++ wd, 9999, rfl, b2, fun H3 s3 => ?_⟩⟩
      rw [numV_bad (c := 32) (by rw [t2]; simp) (by decide +kernel)]
      have sall := sm.trans (s2.trans s3)
      exact q H3 ((d1.same sall).mono (by omega)) (kp1.trans (Same.kp sall))
end
end Pb

namespace Pb
open PySem PySem.Spec PyProof.Rows L2 TL
/-! ### the law -/
def spLaw (K : PySem.W.Frag) : Sp := fun vs H Q _ => ∃ (a : Addr) (ns : List Int), vs = [.ref a] ∧ SqL K H a (ns.map V.int) ∧ ns.length ≤ 63 ∧ ∀ H', Q (.bl true) H'
abbrev sLaw : Stmt := top 40
abbrev nLaw : List Str := ["_law_script", "_law_draw", "_law_k", "_law_text_here", "_law_word", "_law_odd", "_law_thing", "_law_found"]
theorem scLaw : FnScope nLaw ["_law_script"] (defScope sLaw) := ⟨rfl, rfl, rfl, by decide +kernel, rfl, by decide +kernel, by decide +kernel⟩
/-- the functions that the law calls -/
structure LK (K : PySem.W.Frag) (mg : Str → Option Value) : Prop where
  fBegin : ∃ f fd, FnP K "_law_begin" sBegin f fd ∧ mg "_law_begin" = some (.ref f)
  fMixed : ∃ f fd, FnP K "_law_mixed" sMixed f fd ∧ mg "_law_mixed" = some (.ref f)
  fNext : ∃ f fd, FnP K "_law_next" sNext f fd ∧ mg "_law_next" = some (.ref f)
  fWhole : ∃ f fd, FnD K "is_whole" sWhole [.int 0, .int 9999] f fd ∧ mg "is_whole" = some (.ref f)
  fName : ∃ f fd, FnD K "is_name" sName [] f fd ∧ mg "is_name" = some (.ref f)
  fNeedN : ∃ f fd, FnD K "need_name" sNeedN [] f fd ∧ mg "need_name" = some (.ref f)
  fNeedD : ∃ f fd, FnD K "need_day" sNeedD [] f fd ∧ mg "need_day" = some (.ref f)
  fNum : ∃ f fd, FnD K "number_in" sNum [.int 9999] f fd ∧ mg "number_in" = some (.ref f)
  fRows : ∃ f fd, FnD K "rows_of" sRows [] f fd ∧ mg "rows_of" = some (.ref f)
  fSign : ∃ f fd, FnD K "_law_sign" sSign [] f fd ∧ mg "_law_sign" = some (.ref f)
  fText : ∃ f fd, FnD K "_law_text" sText [] f fd ∧ mg "_law_text" = some (.ref f)
  fFigs : ∃ f fd, FnD K "_law_figures" sFigs [] f fd ∧ mg "_law_figures" = some (.ref f)
  fLName : ∃ f fd, FnD K "_law_is_name" sLIsName [] f fd ∧ mg "_law_is_name" = some (.ref f)
  fLWhole : ∃ f fd, FnD K "_law_is_whole" sLIsWhole [] f fd ∧ mg "_law_is_whole" = some (.ref f)
  fRead : ∃ f fd, FnD K "_law_read" sRead [] f fd ∧ mg "_law_read" = some (.ref f)
  fWhR : ∃ f fd, FnD K "_law_wholes_right" sWhR [] f fd ∧ mg "_law_wholes_right" = some (.ref f)
  fSaid : ∃ f fd, FnD K "_law_said" sSaid [] f fd ∧ mg "_law_said" = some (.ref f)
  fSame : ∃ f fd, FnD K "_law_same" sSame [] f fd ∧ mg "_law_same" = some (.ref f)
  fPart : ∃ f fd, FnD K "_law_parted" sPart [] f fd ∧ mg "_law_parted" = some (.ref f)
  fRowsR : ∃ f fd, FnD K "_law_rows_right" sRowsR [] f fd ∧ mg "_law_rows_right" = some (.ref f)
  fNumR : ∃ f fd, FnD K "_law_numbers_right" sNumR [] f fd ∧ mg "_law_numbers_right" = some (.ref f)
  gMin : mg "min" = none
  gRange : mg "range" = none
  gRepr : mg "repr" = none
  kL : ∃ t, mg "LETTERS" = some (.str ltr t)
  kF : ∃ t, mg "FIGURES" = some (.str fig t)
  kN : ∃ t, mg "LONGEST_NAME" = some (.int 8 t)
  kD : ∃ t, mg "LAST_DAY" = some (.int 9999 t)
  kM : ∃ t, mg "MOST_FIGURES" = some (.int 5 t)
theorem as_rows : rowsN (tl (Txt.mul "a " 3000)) = [List.replicate 3000 [97]] := by
  have e : tl (Txt.mul "a " ((3000 : Nat) : Int)) = (List.replicate 3000 (tl "a ")).flatten := tl_mul (by decide) (by decide +kernel)
  have e2 : tl ("a " : Str) = [97, 32] := by decide +kernel
  rw [e2] at e
  show prt [] [] (tl (Txt.mul "a " ((3000 : Nat) : Int))) = _
  rw [e, prt_as, List.nil_append]
theorem as_len : (Txt.mul "a " 3000).cps.size ≤ 20000 := by
  have e : tl (Txt.mul "a " ((3000 : Nat) : Int)) = (List.replicate 3000 (tl "a ")).flatten := tl_mul (by decide) (by decide +kernel)
  have e2 : tl ("a " : Str) = [97, 32] := by decide +kernel
  rw [e2] at e
  have : (Txt.mul "a " ((3000 : Nat) : Int)).cps.size = (tl (Txt.mul "a " ((3000 : Nat) : Int))).length := Array.length_toList.symm
  show (Txt.mul "a " ((3000 : Nat) : Int)).cps.size ≤ 20000
  rw [this, e, List.length_flatten, List.map_replicate]
  show (List.replicate 3000 2).sum ≤ 20000
  rw [List.sum_replicate_nat]
  decide
theorem flat_one {α : Type} (x : α) : ∀ n, (List.replicate n [x]).flatten = List.replicate n x
  | 0 => rfl
  | n + 1 => by rw [List.replicate_succ, List.flatten_cons, flat_one x n, List.replicate_succ]; rfl
theorem wV_as (n : Nat) : wV (List.replicate n [97]) = (List.replicate n [V.str "a"]).flatten := by
  rw [flat_one]
  unfold wV
  rw [List.map_replicate]
  congr 1
section
variable {P : Program} {w : World} {K : PySem.W.Frag} {mg : Str → Option Value} {base : Heap} {f : Addr} {fd : FuncData}
theorem ok_law (F : FnD K "law" sLaw [] f fd) (B : B0 mg) (C : CE1 K mg) (N : LK K mg) : FnG P w K mg base CX0 5 f fd ["_law_script"] (spLaw K) := by
  obtain ⟨fB, dB, FB, gB⟩ := N.fBegin
  obtain ⟨fM, dM, FM, gM⟩ := N.fMixed
  obtain ⟨fN, dN, FN, gN⟩ := N.fNext
  obtain ⟨fW, dW, FW, gW⟩ := N.fWhole
  obtain ⟨fI, dI, FI, gI⟩ := N.fName
  obtain ⟨fNN, dNN, FNN, gNN⟩ := N.fNeedN
  obtain ⟨fND, dND, FND, gND⟩ := N.fNeedD
  obtain ⟨fU, dU, FU, gU⟩ := N.fNum
  obtain ⟨fR, dR, FR, gR⟩ := N.fRows
  obtain ⟨fS, dS, FS, gS⟩ := N.fSign
  obtain ⟨fT, dT, FT, gT⟩ := N.fText
  obtain ⟨fG, dG, FG, gG⟩ := N.fFigs
  obtain ⟨fLI, dLI, FLI, gLI⟩ := N.fLName
  obtain ⟨fLW, dLW, FLW, gLW⟩ := N.fLWhole
  obtain ⟨fRd, dRd, FRd, gRd⟩ := N.fRead
  obtain ⟨fWR, dWR, FWR, gWR⟩ := N.fWhR
  obtain ⟨fSd, dSd, FSd, gSd⟩ := N.fSaid
  obtain ⟨fSm, dSm, FSm, gSm⟩ := N.fSame
  obtain ⟨fP, dP, FP, gP⟩ := N.fPart
  obtain ⟨fRR, dRR, FRR, gRR⟩ := N.fRowsR
  obtain ⟨fNR, dNR, FNR, gNR⟩ := N.fNumR
  obtain ⟨tL, kL⟩ := N.kL
  obtain ⟨tF, kF⟩ := N.kF
  obtain ⟨tN, kN⟩ := N.kN
  obtain ⟨tD, kD⟩ := N.kD
  obtain ⟨tM, kM⟩ := N.kM
  have GB : FnOk P w K mg base CX0 1 fB dB ["_law_script"] (spBegin K) := ok_begin FB
  have GN : FnOk P w K mg base CX0 2 fN dN ["_law_draw", "_law_many"] spNext := ok_next FN FM gM B.l
  have GW : FnOk P w K mg base CX0 1 fW dW ["thing", "least", "most"] spWhole := ok_whole FW B
  have GI : FnOk P w K mg base CX0 1 fI dI ["thing"] (spName K) := ok_name FI B kL kN
  have GNN : FnOk P w K mg base (L2.CX P w) 2 fNN dNN ["thing"] (spNeed (cN K) nameV) := ok_needN FNN C FI gI GI
  have GND : FnOk P w K mg base (L2.CX P w) 2 fND dND ["thing"] (spNeed (cD K) fun x => wholeV x 0 9999) := ok_needD FND C FW gW kD GW
  have GU : FnOk P w K mg base CX0 1 fU dU ["word", "most"] spNum := ok_num FU B kF kM
  have GR : FnOk P w K mg base CX0 1 fR dR ["text"] spRows := ok_rows FR
  have GS : FnOk P w K mg base CX0 3 fS dS ["_law_draw"] spSign := ok_sign FS B FN gN GN
  have GT : FnOk P w K mg base CX0 4 fT dT ["_law_draw"] spText := ok_text FT B N.gRange FN gN GN FS gS GS
  have GG : FnOk P w K mg base CX0 4 fG dG ["_law_draw"] spText := ok_figs FG B N.gRange FN gN GN FS gS GS
  have GLI : FnOk P w K mg base CX0 1 fLI dLI ["_law_thing"] (spLName K) := ok_lname FLI B
  have GLW : FnOk P w K mg base CX0 1 fLW dLW ["_law_thing", "_law_least", "_law_most"] spWhole := ok_lwhole FLW B
  have GRd : FnOk P w K mg base CX0 1 fRd dRd ["_law_word", "_law_most"] spRead := ok_read FRd B
  have GSd : FnOk P w K mg base CX0 3 fSd dSd ["_law_way", "_law_thing"] spSaid := ok_said FSd B C FNN gNN GNN FND gND GND
  have GSm : FnOk P w K mg base CX0 1 fSm dSm ["_law_found", "_law_due"] spSame := ok_same FSm B
  have GP : FnOk P w K mg base CX0 1 fP dP ["_law_text_here"] spRows := ok_part FP
  have GWR : FnG P w K mg base CX0 4 fWR dWR ["_law_draw"] spRight := ok_whR FWR B N.gRepr FN gN GN FW gW GW FLW gLW GLW FSd gSd GSd
  have GRR : FnOk P w K mg base CX0 4 fRR dRR ["_law_draw"] spRight := ok_rowsR FRR B N.gRange FN gN GN FS gS GS FR gR GR FP gP GP
  have GNR : FnOk P w K mg base CX0 3 fNR dNR ["_law_draw", "_law_word", "_law_text_here"] spNumR := ok_numR FNR B FN gN GN FU gU GU FRd gRd GRd FSm gSm GSm
  have bB : Binds K dB ["_law_script"] [] := FB.bindsN fun _ _ _ _ _ _ us hl => match us, hl with | [_], _ => rfl
  have bN : Binds K dN ["_law_draw", "_law_many"] [] := FN.bindsN fun _ _ _ _ _ _ us hl => match us, hl with | [_, _], _ => rfl
  have bI : Binds K dI ["thing"] [] := FI.bindsN fun _ _ _ _ _ _ us hl => match us, hl with | [_], _ => rfl
  have bR : Binds K dR ["text"] [] := FR.bindsN fun _ _ _ _ _ _ us hl => match us, hl with | [_], _ => rfl
  have bT : Binds K dT ["_law_draw"] [] := FT.bindsN fun _ _ _ _ _ _ us hl => match us, hl with | [_], _ => rfl
  have bG : Binds K dG ["_law_draw"] [] := FG.bindsN fun _ _ _ _ _ _ us hl => match us, hl with | [_], _ => rfl
  have bLI : Binds K dLI ["_law_thing"] [] := FLI.bindsN fun _ _ _ _ _ _ us hl => match us, hl with | [_], _ => rfl
  have bSd : Binds K dSd ["_law_way", "_law_thing"] [] := FSd.bindsN fun _ _ _ _ _ _ us hl => match us, hl with | [_, _], _ => rfl
  have bWR : Binds K dWR ["_law_draw"] [] := FWR.bindsN fun _ _ _ _ _ _ us hl => match us, hl with | [_], _ => rfl
  have bRR : Binds K dRR ["_law_draw"] [] := FRR.bindsN fun _ _ _ _ _ _ us hl => match us, hl with | [_], _ => rfl
  have bNR : Binds K dNR ["_law_draw", "_law_word", "_law_text_here"] [] := FNR.bindsN fun _ _ _ _ _ _ us hl => match us, hl with | [_, _, _], _ => rfl
  refine fnG_of F scLaw (fun vs H Q E h => ?_) (fun cdv A outer s0 H vs Q E gd hr h => ?_)
  · obtain ⟨a, ns, rfl, _⟩ := h
    rfl
  · obtain ⟨a, ns, rfl, hS, hlen, q⟩ := h
    have hr1 := hr.mono (show 1 ≤ 4 by decide)
    have hr2 := hr.mono (show 2 ≤ 4 by decide)
    have hr3 := hr.mono (show 3 ≤ 4 by decide)
    refine ⟨_, PSs.nox (pss_cons (ps_set (i := 1) scLaw.nd rfl (.inl rfl) (pe_call GB hr1 rfl gB FB.kp bB .nil pass0 (pa_cons (pv 0) pa_nil)))
      (pss_cons (ps_for PassesOwn.never rfl (pi_range1 rfl N.gRange (pa_cons (pe_op op_add (pe_callB (call_min2 rfl) rfl N.gMin boot_min (pa_cons pe_int (pa_cons (pe_callB call_len_seq rfl B.l PySem.boot_len (pa_cons (pv 0) pa_nil)) pa_nil))) pe_int) pa_nil)) (pg_name (i := 2) scLaw.nd rfl (.inl rfl))
        (pss_cons (ps_par (i := 3) (j := 4) rfl scLaw.nd rfl rfl (by decide) rfl rfl (pa_cons (pe_call GT hr rfl gT FT.kp bT .nil pass0 (pa_cons (pv 1) pa_nil)) (pa_cons (pe_call GG hr rfl gG FG.kp bG .nil pass0 (pa_cons (pv 1) pa_nil)) pa_nil)) rfl)
        (pss_cons (ps_set (i := 5) scLaw.nd rfl (.inl rfl) (pe_ix ix_list (pe_lst (pa_cons pe_non (pa_cons pe_int (pa_cons pe_bl (pa_cons (pe_lst (pa_cons pe_str pa_nil)) (pa_cons (pe_tup (pa_cons pe_str pa_nil)) (pa_cons pe_dnewK (pa_cons pe_str (pa_cons pe_str pa_nil))))))))) (pe_call GN hr2 rfl gN FN.kp bN .nil pass0 (pa_cons (pv 1) (pa_cons pe_int pa_nil))) (fun _ _ => rfl)))
        (pss_cons (ps_for PassesOwn.never rfl (pi_tup (pe_tup (pa_cons (pv 3) (pa_cons (pv 4) (pa_cons (pv 5) (pa_cons (pe_op op_add_str (pv 3) pe_str) pa_nil)))))) (pg_name (i := 6) scLaw.nd rfl (.inl rfl))
          (pss_cons (ps_set (i := 7) scLaw.nd rfl (.inl rfl) (pe_call GI hr1 rfl gI FI.kp bI .nil pass0 (pa_cons (pv 6) pa_nil)))
          (pss_cons (ps_if (PW.pt (pw_or (pt_not (pt_val (pe_callB call_isi rfl B.i boot_isinstance (pa_cons (pv 7) (pa_cons (pe_bltn (v := .ty "bool") rfl B.b (show bootBuiltins "bool" = some (.type "bool") by decide +kernel) rfl) pa_nil)))))
              (pw_or1 (pt_cmpR op_ne (pv 7) (pe_call GLI hr1 rfl gLI FLI.kp bLI .nil pass0 (pa_cons (pv 6) pa_nil)) (nomark _))))) (pss_one (ps_ret pe_bl)) pss_nil)
          (pss_one (ps_if (pt_cmpR op_ne (pe_call GSd hr3 rfl gSd FSd.kp bSd .nil pass0 (pa_cons pe_int (pa_cons (pv 6) pa_nil))) (pe_ix ix_list (pe_lst (pa_cons pe_str (pa_cons pe_str pa_nil))) (pe_callTy call_int1 rfl B.n PyProof.Rows.boot_int (pa_cons (pe_call GLI hr1 rfl gLI FLI.kp bLI .nil pass0 (pa_cons (pv 6) pa_nil)) pa_nil)) (fun _ _ => rfl)) (nomark _)) (pss_one (ps_ret pe_bl)) pss_nil)))))
        (pss_cons (ps_if (pt_not (pt_val (pe_call GNR hr3 rfl gNR FNR.kp bNR .nil pass0 (pa_cons (pv 1) (pa_cons (pv 4) (pa_cons (pv 3) pa_nil)))))) (pss_one (ps_ret pe_bl)) pss_nil)
        (pss_one (ps_if (PW.pt (pw_or (pt_not (pt_val (pe_callG GWR gd hr rfl gWR FWR.kp bWR .nil pass0 (pa_cons (pv 1) pa_nil)))) (pw_or1 (pt_not (pt_val (pe_call GRR hr rfl gRR FRR.kp bRR .nil pass0 (pa_cons (pv 1) pa_nil))))))) (pss_one (ps_ret pe_bl)) pss_nil)))))))
      (pss_one (ps_ret (pe_and (pe_cmpR (op_eqD hr.units) (pe_call GR hr1 rfl gR FR.kp bR .nil pass0 (pa_cons pe_str pa_nil)) (pe_lst (pa_cons (pe_lst pa_nil) pa_nil)) (nomark _))
        (pe_one (pe_cmpR (op_eqD hr.units) (pe_call GR hr1 rfl gR FR.kp bR .nil pass0 (pa_cons (pe_op op_mulT pe_str pe_int) pa_nil)) (pe_lst (pa_cons (pe_op op_rep (pe_lst (pa_cons pe_str pa_nil)) pe_int) pa_nil)) (nomark _)))))))), ?_⟩
    dsimp only [cxOf]
    refine ⟨_, rfl, a, ns, rfl, hS, hlen, fun H1 d c nc nd dr keep => ?_⟩
    have S1 : Same H H1 := fun b o e => by
      rw [keep b (ne_of_none e nc) (ne_of_none e nd) (by rw [e]; simp)]
      exact e
    have sc := S1.seq hS
    refine ⟨_, rfl, a, ns.map V.int, rfl, .inl sc, _, _, rfl, _, _, rfl, rfl, _, rfl, ?_, ?_, for_range (lo := 0) (n := _) (fun i σ H' => ∃ y2 y3 y4 y5 y6 y7, σ = [some (.ref a), some (.ref d), y2, y3, y4, y5, y6, y7] ∧ Dr H' d (500 * i))
      ⟨none, none, none, none, none, none, rfl, dr⟩ (fun i σ H' hi z => ?_) (fun σ H' z => ?_)⟩
    · split <;> omega
    · split <;> omega
    · obtain ⟨y2, y3, y4, y5, y6, y7, rfl, dr0⟩ := z
      have hi64 : i ≤ 64 := by
        rw [List.length_map] at hi
        split at hi <;> omega
      clear hi sc S1 dr keep
      refine ⟨_, rfl, d, _, rfl, dr0, by omega, fun tx Ha shx dra ka => ⟨_, rfl, d, _, rfl, dra, by omega, fun wd Hb shw drb kb => ⟨_, _, rfl, ?_⟩⟩⟩
      -- what is odd
      refine ⟨(by show 1 ≤ sizeLine; decide), fun l2 k2 => ⟨(by show 1 ≤ sizeLine; decide), fun t2 k3 => fun e2 k4 => ⟨(by show 8 ≤ sizeLine; decide), fun l3 k5 => ?_⟩⟩⟩
      obtain ⟨s2, f2⟩ := nxo (o := .lst [.str "a"]) k2
      generalize upd Hb l2 (.lst [.str "a"]) = H2 at s2 f2 k3 k4 k5 ⊢
      obtain ⟨s3, f3⟩ := nxo (o := .tup [.str "a"]) k3
      generalize upd H2 t2 (.tup [.str "a"]) = H3 at s3 f3 k4 k5 ⊢
      obtain ⟨s4, f4⟩ := nxo (o := .dK []) k4
      generalize upd H3 e2 (.dK []) = H4 at s4 f4 k5 ⊢
      obtain ⟨s5, f5⟩ := nxo (o := .lst [.non, .int 5, .bl true, .ref l2, .ref t2, .ref e2, .str "", .str "A"]) k5
      generalize upd H4 l3 (.lst [.non, .int 5, .bl true, .ref l2, .ref t2, .ref e2, .str "", .str "A"]) = H5 at s5 f5 ⊢
      have d5 := drb.same (s2.trans (s3.trans (s4.trans s5)))
      refine ⟨_, rfl, d, 8, _, rfl, d5, by decide, by decide, by omega, fun v3 Hc p3 q3 drc bc => ?_⟩
      obtain ⟨x, hx, hat⟩ := at_list (xs := [.non, .int 5, .bl true, .ref l2, .ref t2, .ref e2, .str "", .str "A"]) p3 (by show v3 < 8; exact q3)
      have hed : e2 ≠ d := by
        obtain ⟨kvs, ed⟩ := (drb.same (s2.trans s3)).at
        exact (ne_none ed k4).symm
      have pA : ∀ y ∈ (["", "A"] : List Str), Pl y := by
        have : ∀ y ∈ (["", "A"] : List Str), (y.cps.toList.all fun c => decide (c < 128)) = true ∧ y.cps.size ≤ 20000 := by decide +kernel
        intro y hy
        obtain ⟨h1, h2⟩ := this y hy
        exact ⟨fun c hc => of_decide_eq_true (List.all_eq_true.mp h1 c hc), h2⟩
      have kx : (∃ T, Kd Hc x T) ∧ ∀ z, x = .str z → Pl z := by
        simp only [List.mem_cons, List.not_mem_nil, or_false] at hx
        rcases hx with h | h | h | h | h | h | h | h
        · exact ⟨⟨_, h ▸ Kd.non⟩, fun z e => by rw [h] at e; cases e⟩
        · exact ⟨⟨_, h ▸ Kd.int _⟩, fun z e => by rw [h] at e; cases e⟩
        · exact ⟨⟨_, h ▸ Kd.bl _⟩, fun z e => by rw [h] at e; cases e⟩
        · exact ⟨⟨_, h ▸ Kd.lst (bc.kp.lst d5 (s5 _ _ (s4 _ _ (s3 _ _ f2))))⟩, fun z e => by rw [h] at e; cases e⟩
        · exact ⟨⟨_, h ▸ Kd.tup (bc.kp.tup d5 (s5 _ _ (s4 _ _ f3)))⟩, fun z e => by rw [h] at e; cases e⟩
        · exact ⟨⟨_, h ▸ Kd.dic (bc.kp e2 _ hed (s5 _ _ f4))⟩, fun z e => by rw [h] at e; cases e⟩
        · exact ⟨⟨_, h ▸ Kd.str _⟩, fun z e => by rw [h] at e; cases e; exact pA _ (by decide +kernel)⟩
        · exact ⟨⟨_, h ▸ Kd.str _⟩, fun z e => by rw [h] at e; cases e; exact pA _ (by decide +kernel)⟩
      refine ⟨l3, _, _, _, rfl, rfl, .of (bc.kp.lst d5 f5), hat, ?_⟩
      clear hat hx p3 q3 d5 f5 s5 k5 f4 s4 k4 f3 s3 k3 f2 s2 k2 bc hed pA
      refine gName_go ?_
      try dsimp only
      -- the things
      have lx := shx.len
      have l1 : ("\n" : Str).length = 1 := by decide +kernel
      refine ⟨_, rfl, _, rfl, _, rfl, _, rfl, tx, "\n", rfl, rfl, Nat.le_of_lt (len20k (by rw [l1]; omega)), (by show 4 ≤ sizeLine; decide), fun t kt => ?_⟩
      have shn : Sh 41 (tx ++ ("\n" : Str)) := shx.app (k := 1) ⟨by decide +kernel, by decide +kernel⟩
      have px := shx.pl (by decide)
      have pw := shw.pl (by decide)
      have pn := shn.pl (by decide)
      obtain ⟨st, et⟩ := nxo (o := .tup [.str tx, .str wd, x, .str (tx ++ ("\n" : Str))]) kt
      have drt := drc.same st
      have things : ∀ y ∈ [V.str tx, .str wd, x, .str (tx ++ ("\n" : Str))], (∃ T, Kd Hc y T) ∧ ∀ z, y = .str z → Pl z := fun y hy => by
        simp only [List.mem_cons, List.not_mem_nil, or_false] at hy
        rcases hy with h | h | h | h
        · exact ⟨⟨_, h ▸ Kd.str _⟩, fun z e => by rw [h] at e; cases e; exact px⟩
        · exact ⟨⟨_, h ▸ Kd.str _⟩, fun z e => by rw [h] at e; cases e; exact pw⟩
        · rw [h]; exact kx
        · exact ⟨⟨_, h ▸ Kd.str _⟩, fun z e => by rw [h] at e; cases e; exact pn⟩
      generalize hxs : [V.str tx, .str wd, x, .str (tx ++ ("\n" : Str))] = xs at things st et drt ⊢
      generalize upd Hc t (.tup xs) = Hs at st et drt ⊢
      refine ⟨t, rfl, ⟨_, .of et⟩, for_it (walk_tup (K := K) (a := t) (xs := xs)) (fun m σ H' => Same Hs H' ∧ ∃ z6 z7, σ = [some (.ref a), some (.ref d), some (.int (0 + (i : Nat))), some (.str tx), some (.str wd), some x, z6, z7]) ⟨Same.refl _, _, _, rfl⟩ (fun m σ H' _ pv => .of (pv.1 _ _ et)) (fun m y σ Hd He hm pv hy => ?_) fun σ Hd pv => ?_⟩
      · obtain ⟨sm, z6, z7, rfl⟩ := pv
        obtain ⟨rfl, gy⟩ := hy
        obtain ⟨⟨T, kd0⟩, ply⟩ := things y (List.mem_of_getElem? gy)
        have kd := (kd0.same st).same sm
        have hsz : ∀ z, y = .str z → z.cps.size < sizeLine := fun z e => (ply z e).small
        refine ⟨_, rfl, y, T, rfl, kd, hsz, fun H6 s6 => ?_⟩
        refine ⟨_, rfl, .bl _, _, _, _, _, rfl, .ty "bool", .base (.bl _), kit_ty (show kitB "bool" "bool" = some true by decide +kernel), _, rfl, iteF ?_⟩
        refine ⟨_, rfl, _, rfl, y, T, rfl, kd.same s6, ply, fun H7 s7 => ⟨rfl, _, rfl, ?_⟩⟩
        rw [decide_eq_true rfl]
        refine iteF ⟨_, rfl, 0, y, T, rfl, (kd.same s6).same s7, hsz, fun H8 s8 => ⟨(by show 2 ≤ sizeLine; decide), fun a3 n3 => ?_⟩⟩
        obtain ⟨t3, g3⟩ := nxo (o := .lst [.str "name", .str "none"]) n3
        generalize upd H8 a3 (.lst [.str "name", .str "none"]) = Hg at t3 g3 ⊢
        refine ⟨_, rfl, y, T, rfl, (((kd.same s6).same s7).same s8).same t3, ply, fun H9 s9 => ?_⟩
        have sall := sm.trans (s6.trans (s7.trans (s8.trans (t3.trans s9))))
        cases e : nameV y with
        | true =>
          refine .inr ⟨true, rfl, a3, _, _, _, rfl, rfl, .of (s9 _ _ g3), rfl, rfl, _, rfl, ?_⟩
          rw [show saidT 0 y = "none" by unfold saidT; rw [if_pos rfl, e]; rfl]
          exact iteF ⟨sall, _, _, rfl⟩
        | false =>
          refine .inr ⟨false, rfl, a3, _, _, _, rfl, rfl, .of (s9 _ _ g3), rfl, rfl, _, rfl, ?_⟩
          rw [show saidT 0 y = "name" by unfold saidT; rw [if_pos rfl, e]; rfl]
          exact iteF ⟨sall, _, _, rfl⟩
      · obtain ⟨sm, z6, z7, rfl⟩ := pv
        refine ⟨_, rfl, _, rfl, _, rfl, d, wd, tx, _, rfl, drt.same sm, by omega, shw, shx, fun H6 dr6 _ => ⟨_, rfl, iteF ?_⟩⟩
        refine ⟨_, rfl, d, _, rfl, dr6, by omega, fun H7 dr7 _ => ⟨_, rfl, iteF ?_⟩⟩
        refine ⟨_, rfl, d, _, rfl, dr7, by omega, fun H8 dr8 _ => ⟨_, rfl, iteF ?_⟩⟩
        exact ⟨_, _, _, _, _, _, rfl, dr8.mono (by omega)⟩
    · obtain ⟨y2, y3, y4, y5, y6, y7, rfl, dr0⟩ := z
      refine ⟨"", rfl, by decide +kernel, fun H6 r as s6 nr fr nd er rows => ⟨Nat.zero_le _, fun b1 n1 => ⟨(by show 1 ≤ sizeLine; decide), fun b2 n2 => ?_⟩⟩⟩
      obtain ⟨t1, g1⟩ := nxo (o := .lst []) n1
      generalize upd H6 b1 (.lst []) = H7 at t1 g1 n2 ⊢
      obtain ⟨t2, g2⟩ := nxo (o := .lst [.ref b1]) n2
      generalize upd H7 b2 (.lst [.ref b1]) = H8 at t2 g2 ⊢
      have r0 : rowsN (tl ("" : Str)) = [[]] := by
        rw [show tl ("" : Str) = [] by decide +kernel]
        rfl
      rw [r0] at rows
      have sh0 : SeqAt.shaped (rowsD [[]]) = true := by decide +kernel
      refine ⟨rowsD [[]], rowsD [[]], dp_rows ((rows.same t1).same t2) (t2 _ _ (t1 _ _ er)), dp_rows (as := [b1]) ⟨rfl, fun k a row h1 h2 => ?_⟩ g2, sh0, sh0, _, rfl, ?_⟩
      · match k, h1, h2 with
        | 0, h1, h2 =>
          cases h1
          cases h2
          exact t2 _ _ g1
      rw [SeqAt.eqv_refl _ (SeqAt.canLay_of_shaped sh0)]
      refine iteT ⟨"a ", 3000, rfl, rfl, mul_ok (n := 3000) (by decide) (by decide +kernel) (by decide) (by decide +kernel), _, rfl, as_len, fun H9 r2 as2 s9 nr2 fr2 nd2 er2 rows2 => ⟨(by show 1 ≤ sizeLine; decide), fun c1 m1 => ?_⟩⟩
      obtain ⟨u1, w1⟩ := nxo (o := .lst [.str "a"]) m1
      generalize upd H9 c1 (.lst [.str "a"]) = Hm at u1 w1 ⊢
      refine ⟨c1, 3000, _, rfl, rfl, w1, by decide, by decide, (by show 1 * 3000 ≤ sizeLine; decide), fun c2 m2 => ⟨(by show 1 ≤ sizeLine; decide), fun c3 m3 => ?_⟩⟩
      obtain ⟨u2, w2⟩ := nxo (o := .lst (List.replicate (3000 : Int).toNat [V.str "a"]).flatten) m2
      generalize upd Hm c2 (.lst (List.replicate (3000 : Int).toNat [V.str "a"]).flatten) = Hn at u2 w2 m3 ⊢
      obtain ⟨u3, w3⟩ := nxo (o := .lst [.ref c2]) m3
      generalize upd Hn c3 (.lst [.ref c2]) = Ho at u3 w3 ⊢
      rw [as_rows] at rows2
      have sh1 : SeqAt.shaped (rowsD [List.replicate 3000 [97]]) = true := shp_rows fun row hr y hy c hc => by
        rw [List.mem_singleton.mp hr] at hy
        rw [(List.mem_replicate.mp hy).2] at hc
        rw [List.mem_singleton.mp hc]
        decide
      refine ⟨rowsD [List.replicate 3000 [97]], rowsD [List.replicate 3000 [97]], dp_rows (((rows2.same u1).same u2).same u3) (u3 _ _ (u2 _ _ (u1 _ _ er2))), dp_rows (as := [c2]) ⟨rfl, fun k a row h1 h2 => ?_⟩ w3, sh1, sh1, ?_⟩
      · match k, h1, h2 with
        | 0, h1, h2 =>
          cases h1
          cases h2
          rw [wV_as]
          exact u3 _ _ w2
      rw [SeqAt.eqv_refl _ (SeqAt.canLay_of_shaped sh1)]
      exact q _
end
end Pb

namespace Pb
open PySem PySem.Spec PyProof.Rows L2
/-! ### the head: what the top has written -/
def dfn : List He.DefD := [⟨("is_whole", none), "is_whole", "is_whole", defArgs sWhole, defBody sWhole, defScope sWhole, [.int 0, .int 9999], []⟩, ⟨("is_name", none), "is_name", "is_name", defArgs sName, defBody sName, defScope sName, [], []⟩, ⟨("need_name", none), "need_name", "need_name", defArgs sNeedN, defBody sNeedN, defScope sNeedN, [], []⟩, ⟨("need_day", none), "need_day", "need_day", defArgs sNeedD, defBody sNeedD, defScope sNeedD, [], []⟩, ⟨("number_in", none), "number_in", "number_in", defArgs sNum, defBody sNum, defScope sNum, [.int 9999], []⟩, ⟨("rows_of", none), "rows_of", "rows_of", defArgs sRows, defBody sRows, defScope sRows, [], []⟩, ⟨("_law_begin", none), "_law_begin", "_law_begin", defArgs sBegin, defBody sBegin, defScope sBegin, [], []⟩, ⟨("_law_mixed", none), "_law_mixed", "_law_mixed", defArgs sMixed, defBody sMixed, defScope sMixed, [], []⟩, ⟨("_law_next", none), "_law_next", "_law_next", defArgs sNext, defBody sNext, defScope sNext, [], []⟩, ⟨("_law_sign", none), "_law_sign", "_law_sign", defArgs sSign, defBody sSign, defScope sSign, [], []⟩, ⟨("_law_text", none), "_law_text", "_law_text", defArgs sText, defBody sText, defScope sText, [], []⟩, ⟨("_law_figures", none), "_law_figures", "_law_figures", defArgs sFigs, defBody sFigs, defScope sFigs, [], []⟩, ⟨("_law_is_name", none), "_law_is_name", "_law_is_name", defArgs sLIsName, defBody sLIsName, defScope sLIsName, [], []⟩, ⟨("_law_is_whole", none), "_law_is_whole", "_law_is_whole", defArgs sLIsWhole, defBody sLIsWhole, defScope sLIsWhole, [], []⟩, ⟨("_law_read", none), "_law_read", "_law_read", defArgs sRead, defBody sRead, defScope sRead, [], []⟩, ⟨("_law_wholes_right", none), "_law_wholes_right", "_law_wholes_right", defArgs sWhR, defBody sWhR, defScope sWhR, [], []⟩, ⟨("_law_said", none), "_law_said", "_law_said", defArgs sSaid, defBody sSaid, defScope sSaid, [], []⟩, ⟨("_law_same", none), "_law_same", "_law_same", defArgs sSame, defBody sSame, defScope sSame, [], []⟩, ⟨("_law_parted", none), "_law_parted", "_law_parted", defArgs sPart, defBody sPart, defScope sPart, [], []⟩, ⟨("_law_rows_right", none), "_law_rows_right", "_law_rows_right", defArgs sRowsR, defBody sRowsR, defScope sRowsR, [], []⟩, ⟨("_law_numbers_right", none), "_law_numbers_right", "_law_numbers_right", defArgs sNumR, defBody sNumR, defScope sNumR, [], []⟩, ⟨("law", none), "law", "law", defArgs sLaw, defBody sLaw, defScope sLaw, [], []⟩]
def gls0 : List Str := ["is_whole", "is_name", "need_name", "need_day", "number_in", "rows_of", "_law_begin", "_law_mixed", "_law_next", "_law_sign", "_law_text", "_law_figures"]
def gls1 : List Str := ["_law_is_name", "_law_is_whole", "_law_read", "_law_wholes_right", "_law_said", "_law_same", "_law_parted", "_law_rows_right", "_law_numbers_right", "law", "PathError", "BadName"]
def gls2 : List Str := ["BadDay", "BadBook", "BadLegs", "BadLine", "BadPlan", "BadSection", "BadText", "BadThing", "SecondBook"]
def gls : List Str := gls0 ++ (gls1 ++ (gls2))
def frs : List Str := ["isinstance", "int", "bool", "str", "len", "all", "list", "min", "range", "repr"]
def ckG (K : PySem.W.Frag) : Bool := gls.all fun x => gloB x K
def ckF (K : PySem.W.Frag) : Bool := frs.all fun x => freeB x K
def ckV (K : PySem.W.Frag) : Bool := (He.Fa.str "LETTERS" ltr).ok K && ((He.Fa.str "FIGURES" fig).ok K && ((He.Fa.int "LONGEST_NAME" 8).ok K && ((He.Fa.int "LAST_DAY" 9999).ok K && (He.Fa.int "MOST_FIGURES" 5).ok K)))
def ckX (K : PySem.W.Frag) : Bool := PySem.W.excIn K (cN K) mroV "ValueError.__new__" && (PySem.W.excIn K (cD K) mroV "ValueError.__new__" && (xcB K (cN K) mroV "ValueError.__new__" && xcB K (cD K) mroV "ValueError.__new__"))
def ckY (K : PySem.W.Frag) : Bool := decide (PySem.W.exmOne K (.ref (cN K)) (.ref (He.ga K "PathError")) = some true) && (decide (PySem.W.exmOne K (.ref (cD K)) (.ref (He.ga K "PathError")) = some true) &&
  (decide (PySem.W.kitAny K (.ref (cN K)) (oth.map fun x => .ref (He.ga K x)) = some false) && (decide (PySem.W.kitAny K (.ref (cD K)) (oth.map fun x => .ref (He.ga K x)) = some false) &&
  (decide (PySem.W.kitOne K (.ref (cN K)) (.ref (cN K)) = some true) && (decide (PySem.W.kitOne K (.ref (cN K)) (.ref (cD K)) = some false) && (decide (PySem.W.kitOne K (.ref (cD K)) (.ref (cN K)) = some false) && decide (PySem.W.kitOne K (.ref (cD K)) (.ref (cD K)) = some true)))))))
def cks : List (PySem.W.Frag → Bool) := [ckG, ckF, ckV, ckX, ckY]
section
variable {P : Program} {w : World} {K : PySem.W.Frag} {h : Heap} {mg : Str → Option Value}
theorem fr_ok (X : K.In h) (G : h.Ns mainGlobals mg) (c : SaysX cks dfn K) : ∀ x ∈ frs, mg x = none := fun x hx => He.free_ok X G (List.all_eq_true.mp (c.fact 1 (f := ckF)) x hx)
theorem gl_ok (X : K.In h) (G : h.Ns mainGlobals mg) (c : SaysX cks dfn K) : ∀ x ∈ gls, mg x = some (.ref (He.ga K x)) := fun x hx => He.glo_ok X G (List.all_eq_true.mp (c.fact 0 (f := ckG)) x hx)
theorem mkB0 (X : K.In h) (G : h.Ns mainGlobals mg) (c : SaysX cks dfn K) : B0 mg := by
  have fr := fr_ok X G c
  exact ⟨fr _ (by decide +kernel), fr _ (by decide +kernel), fr _ (by decide +kernel), fr _ (by decide +kernel), fr _ (by decide +kernel), fr _ (by decide +kernel), fr _ (by decide +kernel)⟩
theorem mkCE (X : K.In h) (G : h.Ns mainGlobals mg) (c : SaysX cks dfn K) : CE1 K mg := by
  have gl := gl_ok X G c
  have cX := c.fact 3 (f := ckX)
  have cY := c.fact 4 (f := ckY)
  unfold ckX at cX
  unfold ckY at cY
  simp only [Bool.and_eq_true, decide_eq_true_eq] at cX cY
  obtain ⟨x1, x2, x3, x4⟩ := cX
  obtain ⟨y1, y2, y3, y4, y5, y6, y7, y8⟩ := cY
  have og : ∀ x ∈ oth, x ∈ gls := by decide +kernel
  exact { gN := gl _ (by decide +kernel), gD := gl _ (by decide +kernel), gP := gl _ (by decide +kernel), gO := fun x hx => gl x (og x hx)
          xN := x1, xD := x2, tN := xcB_ok x3, tD := xcB_ok x4, mN := y1, mD := y2, oN := y3, oD := y4, nn := y5, nd := y6, dn := y7, dd := y8 }
theorem mkLK (X : K.In h) (G : h.Ns mainGlobals mg) (c : SaysX cks dfn K) : LK K mg := by
  have gl := gl_ok X G c
  have fr := fr_ok X G c
  have cV := c.fact 2 (f := ckV)
  unfold ckV at cV
  simp only [Bool.and_eq_true] at cV
  obtain ⟨v1, v2, v3, v4, v5⟩ := cV
  have df : ∀ (i : Nat) {d : He.DefD}, dfn[i]? = some d → ∃ fd, FunD K d.name d.qual d.params d.body d.scope (d.dvs K) (d.kws K) (He.fAd K d.at_) fd := fun i {d} e => c.def_ i e
  exact {
          fWhole := (df 0 rfl).elim fun fd F => ⟨He.ga K "is_whole", fd, F, gl _ (by decide +kernel)⟩
          fName := (df 1 rfl).elim fun fd F => ⟨He.ga K "is_name", fd, F, gl _ (by decide +kernel)⟩
          fNeedN := (df 2 rfl).elim fun fd F => ⟨He.ga K "need_name", fd, F, gl _ (by decide +kernel)⟩
          fNeedD := (df 3 rfl).elim fun fd F => ⟨He.ga K "need_day", fd, F, gl _ (by decide +kernel)⟩
          fNum := (df 4 rfl).elim fun fd F => ⟨He.ga K "number_in", fd, F, gl _ (by decide +kernel)⟩
          fRows := (df 5 rfl).elim fun fd F => ⟨He.ga K "rows_of", fd, F, gl _ (by decide +kernel)⟩
          fBegin := (df 6 rfl).elim fun fd F => ⟨He.ga K "_law_begin", fd, F, gl _ (by decide +kernel)⟩
          fMixed := (df 7 rfl).elim fun fd F => ⟨He.ga K "_law_mixed", fd, F, gl _ (by decide +kernel)⟩
          fNext := (df 8 rfl).elim fun fd F => ⟨He.ga K "_law_next", fd, F, gl _ (by decide +kernel)⟩
          fSign := (df 9 rfl).elim fun fd F => ⟨He.ga K "_law_sign", fd, F, gl _ (by decide +kernel)⟩
          fText := (df 10 rfl).elim fun fd F => ⟨He.ga K "_law_text", fd, F, gl _ (by decide +kernel)⟩
          fFigs := (df 11 rfl).elim fun fd F => ⟨He.ga K "_law_figures", fd, F, gl _ (by decide +kernel)⟩
          fLName := (df 12 rfl).elim fun fd F => ⟨He.ga K "_law_is_name", fd, F, gl _ (by decide +kernel)⟩
          fLWhole := (df 13 rfl).elim fun fd F => ⟨He.ga K "_law_is_whole", fd, F, gl _ (by decide +kernel)⟩
          fRead := (df 14 rfl).elim fun fd F => ⟨He.ga K "_law_read", fd, F, gl _ (by decide +kernel)⟩
          fWhR := (df 15 rfl).elim fun fd F => ⟨He.ga K "_law_wholes_right", fd, F, gl _ (by decide +kernel)⟩
          fSaid := (df 16 rfl).elim fun fd F => ⟨He.ga K "_law_said", fd, F, gl _ (by decide +kernel)⟩
          fSame := (df 17 rfl).elim fun fd F => ⟨He.ga K "_law_same", fd, F, gl _ (by decide +kernel)⟩
          fPart := (df 18 rfl).elim fun fd F => ⟨He.ga K "_law_parted", fd, F, gl _ (by decide +kernel)⟩
          fRowsR := (df 19 rfl).elim fun fd F => ⟨He.ga K "_law_rows_right", fd, F, gl _ (by decide +kernel)⟩
          fNumR := (df 20 rfl).elim fun fd F => ⟨He.ga K "_law_numbers_right", fd, F, gl _ (by decide +kernel)⟩
          gMin := fr _ (by decide +kernel)
          gRange := fr _ (by decide +kernel)
          gRepr := fr _ (by decide +kernel)
          kL := He.str_ok X G v1
          kF := He.str_ok X G v2
          kN := He.int_ok X G v3
          kD := He.int_ok X G v4
          kM := He.int_ok X G v5 }
theorem facts {f : Addr} (X : K.In h) (G : h.Ns mainGlobals mg) (hfa : mg ("law" : Str) = some (.ref f)) (c : SaysX cks dfn K) :
    ∃ fd : FuncData, (∀ (s : Shared) (u : Value), BindsTo s fd ⟨[u], []⟩ [("_law_script", u)]) ∧ ∀ base : Heap, K.In base → base.Ns mainGlobals mg → FnG P w K mg base CX0 5 f fd ["_law_script"] (spLaw K) := by
  obtain ⟨fd, F⟩ := c.def_ 21 (d := ⟨("law", none), "law", "law", defArgs sLaw, defBody sLaw, defScope sLaw, [], []⟩)
  have e := hfa.symm.trans (gl_ok X G c "law" (by decide +kernel))
  cases e
  have b := FunD.bindsA (ps := ["_law_script"]) F fun _ _ _ _ _ _ us hl => match us, hl with | [_], _ => rfl
  exact ⟨fd, fun s v => b s [v] rfl, fun base _ _ => ok_law F (mkB0 X G c) (mkCE X G c) (mkLK X G c)⟩
end
abbrev RR : PySem.W.OpenRow := PySem.W.OpenLaw.row PySem.Challenge.rw_pathbook_k01_names_numbers_days_and_rows
abbrev hk : PySem.W.Hook := hookX 5 cks dfn
def ob (s : PySem.W.SharedT) : He.AlD := obsXG 5 cks dfn (HandSHeadRun.getT s)
theorem ob_eq (s : PySem.W.SharedT) : ob s = hk.obs s.abs := obsXG_eq (HandSHeadRun.getT_eq s)
def loose0 : List PySem.Str := ["PathError", "BadName", "BadDay", "BadSection", "BadBook", "BadLegs", "BadThing", "SecondBook", "BadPlan", "BadText", "BadLine", "LETTERS"]
def loose1 : List PySem.Str := ["FIGURES", "LONGEST_NAME", "LAST_DAY", "MOST_FIGURES", "is_whole", "is_name", "need_name", "need_day", "number_in", "rows_of", "_law_begin", "_law_mixed"]
def loose2 : List PySem.Str := ["_law_next", "_law_sign", "_law_text", "_law_figures", "_law_is_name", "_law_is_whole", "_law_read", "_law_wholes_right", "_law_said", "_law_same", "_law_parted", "_law_rows_right"]
def loose3 : List PySem.Str := ["_law_numbers_right"]
def loose : List PySem.Str := loose0 ++ (loose1 ++ (loose2 ++ (loose3)))
theorem runs (w : World) : HandSHeadRun.RunEq RR (PySem.W.view RR.prog [40]) hk ob 4500 loose w := by
  intro os
  kernel_rfl
end Pb
open PySem PySem.W PySem.Calls PyProof.Rows
theorem PySem.Challenge.cw_pathbook_k01_names_numbers_days_and_rows_holds : PySem.Challenge.rw_pathbook_k01_names_numbers_days_and_rows.Holds := by
  w_on; o_law
  refine HandSHeadRun.head_any (r := OpenLaw.row PySem.Challenge.rw_pathbook_k01_names_numbers_days_and_rows) (q := view (OpenLaw.row PySem.Challenge.rw_pathbook_k01_names_numbers_days_and_rows).prog [40]) (H := Pb.hk) (ob := Pb.ob) (M := 4500) (loose := Pb.loose) (d := HandSHeadRun.topDef (OpenLaw.row PySem.Challenge.rw_pathbook_k01_names_numbers_days_and_rows).prog 40) (kwd := []) Pb.ob_eq
    (by kernel_rfl) (fun s => by kernel_rfl) Pb.runs (by kernel_rfl) (by kernel_rfl) (by kernel_rfl) (by rfl) (by first | assumption | decide +kernel) (by decide +kernel) ⟨rfl, rfl, rfl, rfl, rfl, by decide +kernel⟩ ?hw ?hc
  case hw => w_witness2
  case hc =>
    refine Pb.walkG (l := PySem.Challenge.rw_pathbook_k01_names_numbers_days_and_rows) (n := 63) (k := 5) (x := "_law_script") (CX := L2.CX0) rfl (by decide) (by kernel_rfl) ⟨rfl, by decide, by decide⟩ ?F (fun _ _ _ _ z => z)
    intro w mg fa h Y G hmg0
    obtain ⟨K, KX, c⟩ := Y
    have hmg : mg ("law" : PySem.Str) = some (.ref fa) := by
      have e : (HandSHeadRun.topDef (OpenLaw.row PySem.Challenge.rw_pathbook_k01_names_numbers_days_and_rows).prog 40).name = ("law" : PySem.Str) := by kernel_rfl
      rw [← e]
      exact hmg0
    obtain ⟨fd, hb, hF⟩ := Pb.facts (P := (PySem.Challenge.rw_pathbook_k01_names_numbers_days_and_rows).prog) (w := w) KX G hmg c
    exact ⟨K, fd, Pb.spLaw K, KX, hb, fun H a ns hl _ hS => ⟨a, ns, rfl, hS, hl, fun _ => rfl⟩, hF⟩
