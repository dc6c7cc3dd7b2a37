import PyProof.Rows.All
import Wide.All
import OpenK.AllK
import Wide.FinOn
import HandS.ForMost
import HandS.ForExc
import HandS.Head2
import HandS.HeadEnd
import HandS.HeadHook2
import HandS.ExcInit
import HandS.ExcField
import HandS.ExcIs
import HandS.ExcValue
import HandS.IsInst
import HandS.Defaults
import HandS.Flow
import KE.KExcInit
import KE.KExcIs
import KE.KTryMore
import HandS.Walk
import HandS.CallSlots
import HandS.Text
import HandS.Replace
import HandS.TupAny
import HandS.Deep
import HandS.Style
import HandS.Iter
import PySem.Challenge.RW_pathbook_k13_legs_measured
set_option Elab.async false
set_option linter.all false
set_option maxRecDepth 100000
set_option maxHeartbeats 0
namespace Pb
open PySem PySem.Spec PyProof.Rows L2
theorem dv (j : Int) (h : 0 < j := by decide) : 0 < j := h
theorem same_upd {H : Hp} {p : Addr} {o : HO} (h : H p = none) : Same H (upd H p o) := fun b x e => by
  rw [upd_ne (ne_of_none e h)]
  exact e
/-! ### two lists put together, the left one perhaps only to be read -/
section
variable {X : Cx}
def rCatS (K : PySem.W.Frag) : R2 := fun x y H Q => ∃ l b xs zs, x = .ref l ∧ y = .ref b ∧ SqL K H l xs ∧ SqL K H b zs ∧ xs.length + zs.length ≤ sizeLine ∧
  ∀ p, H p = none → Q (.ref p) (upd H p (.lst (xs ++ zs)))
theorem op_catS : OpR X (binaryOp .Add) (rCatS X.K) := by
  intro pins s σ H x y v u Q I rx ry hyp
  obtain ⟨l, b, xs, zs, ex, ey, hL, hB, hz, q⟩ := hyp
  subst ex ey
  cases rx; cases ry
  obtain ⟨i1, r1, ⟨o1, n1, g1, c1, d1, e1⟩, s1⟩ := I.list hL
  obtain ⟨i2, r2, ⟨o2, n2, g2, c2, d2, e2⟩, s2⟩ := I.list hB
  obtain ⟨k1, dd1, da1, sl1⟩ := o1
  obtain ⟨k2, dd2, da2, sl2⟩ := o2
  dsimp only at c1 d1 e1 c2 d2 e2
  subst c1 d1 e1 c2 d2 e2
  have l1 := r1.length
  have l2 := r2.length
  have ea : i1.toArray ++ i2.toArray = (i1 ++ i2).toArray := by simp
  have hs : i1.toArray.size + i2.toArray.size ≤ sizeLine := by simp; omega
  refine concat_meets ⟨_, g1, rfl⟩ ⟨_, g2, rfl⟩ noFill_list_add seq_list_add PySem.F.slot_list_add PySem.F.entry_list_add
    (PySem.F.args_list_add_2 _ _) (list_addW l b i1.toArray i2.toArray n1 n2 none none sl1 sl2 hs) ⟨g1, g2, ?_⟩
  rw [ea]
  exact ⟨.ref _, _, I.lnew (t' := s.toks) (r1.append r2) (by rw [List.length_append]; omega), rfl, q _ I.fresh⟩
end
end Pb

/-! ### an own exception class, over any built-in one, made with keywords too -/
namespace Pb
open PySem PySem.W Builtin Builtin.ObjectAttr
section
variable {M : Model} {prog : Program} {w : World} {A : Around} {E : Value → Shared → Prop} {R : Result → Shared → Prop} {h : Heap} {g : Array GenState} {d : Drawn} {t : Nat} {os : OsState}
variable {nm q : Str} {C N : Addr} {bs bm bmB : List Value} {hdct : Bool} {sn : List Str} {sub : List Value} {ab : Bool} {col : Option Bool} {dd : Option Addr} {k0 k1 k2 k3 k5 : Option Value} {B newId initId : String}
abbrev HasT (bm bmB : List Value) : Prop := ∀ T : String, bm.contains (.type T) = bmB.contains (.type T)
theorem kwNewCheck (FB : ExcBaseFacts B newId initId bmB) (hT : HasT bm bmB) {rest : List Value} {kw : List (Str × Value)} {Q : Unit → Shared → Prop}
    (hC : h.get? C = some (excClassObj nm q C N bs bm hdct sn sub ab col dd k0 k1 k2 k3 k5 newId)) (fin : Q () ⟨h, g, d, t, os⟩) :
    wpAny M A (checkBuiltinCall newId ⟨.ref C :: rest, kw⟩) Q E ⟨h, g, d, t, os⟩ := by
  have c1 : (Value.ref C :: bm).contains (.type B) = true := by
    rw [List.contains_cons, hT, FB.hasB, Bool.or_true]
  have c2 := FB.noStar
  simp only [checkBuiltinCall, FB.newKind, FB.newSplit, FB.newRow]
  repeat (first
    | refine wpAny_loadPart_at hC ?_
    | (refine wpAny_isSubtype_exc hC ?_; rw [c1])
    | refine wpAny_staticBase_exc hC ?_
    | refine wpAny_madeBy_exc hC ?_
    | simp only [bne_self_eq_false, Bool.false_eq_true, if_false]
    | wp_step)
  exact fin
theorem kwNew (FB : ExcBaseFacts B newId initId bmB) (hT : HasT bm bmB) {rest : List Value} {kw : List (Str × Value)}
    (hC : h.get? C = some (excClassObj nm q C N bs bm hdct sn sub ab col dd k0 k1 k2 k3 k5 newId)) (hz : rest.length ≤ sizeLine)
    (fin : R (.ok (.ret (.ref (h.objs.size + 1)))) ⟨(h.push (kdv_tup rest)).push (HandSPX.excO C h.objs.size), g, d, t, os⟩) :
    codeAny (model prog w) A (.builtin newId ⟨.ref C :: rest, kw⟩) R ⟨h, g, d, t, os⟩ := by
  have c0 := FB.ends
  have c1 : (Value.ref C :: bm).contains (.type B) = true := by
    rw [List.contains_cons, hT, FB.hasB, Bool.or_true]
  have c2 : (Value.ref C :: bm).contains (.type "AttributeError") = false := by
    rw [List.contains_cons, hT, FB.noAttr]
    rfl
  have c3 : (Value.ref C :: bm).contains (.type "NameError") = false := by
    rw [List.contains_cons, hT, FB.noName]
    rfl
  refine codeAny_builtinAt FB.entry ?_
  unfold Builtin.«BaseException.__new__»
  refine wpAt_bind ?_
  show wpAt _ _ _ (stack >>= _) _ _ _
  refine wpAt_bind (wpAt_stack fun p below => wpAt_of_wpAny ?_)
  wp_walk
  refine wpAt_of_wpAny ?_
  rw [FB.owner]
  repeat (first
    | with_reducible refine wpAny_madeHere_exc FB.canon hC ?_
    | with_reducible refine wpAny_loadPart_at hC ?_
    | (with_reducible refine wpAny_isSubtype_exc hC ?_; first | rw [c1] | rw [c2] | rw [c3])
    | wp_step)
  show R _ _
  rw [Heap.size_push]
  exact fin
theorem kwTypeCall (FB : ExcBaseFacts B newId initId bmB) (hT : HasT bm bmB) {rest : List Value} {kw : List (Str × Value)} {fI : Addr} {Q : Fin → Shared → Prop}
    (hC : h.get? C = some (excClassObj nm q C N bs bm hdct sn sub ab col dd k0 k1 k2 k3 k5 newId))
    (hi : Looks (model prog w) h (typeLookup (.ref C) "__init__") (some (.ref fI))) (hb : ∀ self, Looks (model prog w) h (bindSpecial (.ref fI) self) (.ref fI, [self])) (hz : rest.length ≤ sizeLine)
    (body : codeAny (model prog w) A (.call (.ref fI) ⟨.ref (h.objs.size + 1) :: rest, kw⟩)
      (fun r s' => match r with | .ok (.ret v) => v = .none ∧ Q (.done (.ret (.ref (h.objs.size + 1)))) s' | .ok _ => False | .error e => E e s')
      ⟨(h.push (kdv_tup rest)).push (HandSPX.excO C h.objs.size), g, d, t, os⟩) :
    wpAny (model prog w) A (Builtin.«type.__call__» ⟨.ref C :: rest, kw⟩) Q E ⟨h, g, d, t, os⟩ := by
  repeat (first
    | with_reducible refine wpAny_loadPart_at hC ?_
    | with_reducible refine wpAny_madeBy_exc hC ?_
    | wp_step)
  refine codeAny_call_builtin_code (Code.quiet_builtin _ FB.quiet) (kwNewCheck FB hT hC ?_)
  refine kwNew FB hT hC hz ?_
  show wpAny _ _ _ _ _ _
  have kp : ∀ b o, h.get? b = some o → ((h.push (kdv_tup rest)).push (HandSPX.excO C h.objs.size)).get? b = some o :=
    fun b o e => Heap.get?_push_of_some _ (Heap.get?_push_of_some _ e)
  have hC2 := kp _ _ hC
  have hE : ((h.push (kdv_tup rest)).push (HandSPX.excO C h.objs.size)).get? (h.objs.size + 1) = some (HandSPX.excO C h.objs.size) := by heap_get
  have cc : (Value.ref C :: bm).contains (.ref C) = true := by simp
  have j1 := hi.keeps kp
  have j2 := (hb (.ref (h.objs.size + 1))).keeps kp
  unfold isInstance
  repeat (first
    | with_reducible refine wpAny_loadPart_at hE ?_
    | (with_reducible refine wpAny_isSubtype_exc hC2 ?_; rw [cc])
    | wp_step)
  show wpAny _ _ (typeLookup (.ref C) _) _ _ _
  refine j1.at ?_
  refine wpAny_holding (wpAny_bind (j2.at ?_))
  refine wpAny_bind (wpAny_call (codeAny_mono body fun r s' z => ?_))
  rcases r with e | (v | _ | _ | _) <;> first | exact z | exact z.elim | skip
  obtain ⟨ev, z⟩ := z
  subst ev
  first
    | exact wpAny_pure (wpAny_pure z)
    | (wp_walk; exact z)
theorem kwCall (FB : ExcBaseFacts B newId initId bmB) (hT : HasT bm bmB) {rest : List Value} {kw : List (Str × Value)} {fI : Addr}
    (hC : h.get? C = some (excClassObj nm q C N bs bm hdct sn sub ab col dd k0 k1 k2 k3 k5 newId))
    (hi : Looks (model prog w) h (typeLookup (.ref C) "__init__") (some (.ref fI))) (hb : ∀ self, Looks (model prog w) h (bindSpecial (.ref fI) self) (.ref fI, [self])) (hz : rest.length ≤ sizeLine)
    (body : codeAny (model prog w) (A.under (.builtin "type.__call__" ⟨.ref C :: rest, kw⟩)) (.call (.ref fI) ⟨.ref (h.objs.size + 1) :: rest, kw⟩) (InitBack (h.objs.size + 1) R)
      ⟨(h.push (kdv_tup rest)).push (HandSPX.excO C h.objs.size), g, d, t, os⟩) :
    codeAny (model prog w) A (.call (.ref C) ⟨rest, kw⟩) R ⟨h, g, d, t, os⟩ := by
  have y1 := tc_lookup
  have y2 := tc_bind (.ref C)
  have y3 : (⟨h, g, d, t, os⟩ : Shared).TypeIs (.ref C) "type" := ⟨_, hC, rfl⟩
  refine codeAny_of_tree ?_
  show wpAny _ _ (callAny (.ref C) _) _ _ _
  repeat (any_goals (first | assumption | with_reducible refine wpAny_loadPart_at hC ?_ | wp_step))
  refine ⟨rfl, ?_⟩
  refine codeAny_call_builtin_at (Code.quiet_builtin _ (by decide +kernel)) entry_typeCall (wpAny_check_type_call_sub hC (kwTypeCall FB hT hC hi hb hz ?_))
  refine codeAny_mono body fun r s' z => ?_
  rcases r with e | (v | _ | _ | _) <;> exact z
end
end Pb

namespace Pb
open PySem PySem.W PyProof.Rows L2
/-- a built-in class that own exceptions stand under -/
structure XB (bmB : List Value) (newId : String) : Prop where
  ex : ∃ B initId, ExcBaseFacts B newId initId bmB ∧ StoreFacts B bmB "object.__setattr__" "object"
abbrev mroV : List Value := [.type "ValueError", .type "Exception", .type "BaseException", .type "object"]
abbrev mroL : List Value := [.type "LookupError", .type "Exception", .type "BaseException", .type "object"]
abbrev mroO : List Value := [.type "OverflowError", .type "ArithmeticError", .type "Exception", .type "BaseException", .type "object"]
theorem xbV : XB mroV "ValueError.__new__" := ⟨_, _, PySem.F.excBase_ValueError, PySem.F.store_ValueError⟩
theorem xbL : XB mroL "LookupError.__new__" := ⟨_, _, PySem.F.excBase_LookupError, PySem.F.store_LookupError⟩
theorem xbO : XB mroO "OverflowError.__new__" := ⟨_, _, PySem.F.excBase_OverflowError, PySem.F.store_OverflowError⟩
/-- what the written part says of an own exception class -/
structure XC (K : Frag) (C : Addr) (bmB : List Value) (newId : String) : Prop where
  ini : excInitIn K C bmB newId = true
  ovr : excOver K C bmB = true
  dic : hasDictIn K C = true
  sa : findIn K (.ref C) "__setattr__" = some (some (.builtin "object.__setattr__"))
  ga : findIn K (.ref C) "__getattribute__" = some (some (.builtin "BaseException.__getattribute__"))
  gg : findIn K (.ref C) "__getattr__" = some none
  cl : findIn K (.ref C) "__class__" = some (some (.builtin "object.__class__"))
  sub : subIn K (.ref C) (.type "BaseException") = some true
  ty : typeIn K (.ref C) = some (.type "type")
  kp : keepIn K (.ref C) = true
  ob : mroIn K C (.type "object") = some true
  sg : specialIn K (.builtin "object.__class__") "__get__" = some (some (.builtin "getset_descriptor.__get__"))
  tk : takesIn K (.builtin "object.__class__") = some true
def xcB (K : Frag) (C : Addr) (bmB : List Value) (newId : String) : Bool :=
  excInitIn K C bmB newId && (excOver K C bmB && (hasDictIn K C && (decide (findIn K (.ref C) "__setattr__" = some (some (.builtin "object.__setattr__"))) &&
  (decide (findIn K (.ref C) "__getattribute__" = some (some (.builtin "BaseException.__getattribute__"))) && (decide (findIn K (.ref C) "__getattr__" = some none) &&
  (decide (findIn K (.ref C) "__class__" = some (some (.builtin "object.__class__"))) && (decide (subIn K (.ref C) (.type "BaseException") = some true) &&
  (decide (typeIn K (.ref C) = some (.type "type")) && (keepIn K (.ref C) && (decide (mroIn K C (.type "object") = some true) &&
  (decide (specialIn K (.builtin "object.__class__") "__get__" = some (some (.builtin "getset_descriptor.__get__"))) && decide (takesIn K (.builtin "object.__class__") = some true))))))))))))
theorem xcB_ok {K : Frag} {C : Addr} {bmB : List Value} {newId : String} (h : xcB K C bmB newId = true) : XC K C bmB newId := by
  unfold xcB at h
  simp only [Bool.and_eq_true, decide_eq_true_eq] at h
  obtain ⟨h1, h2, h3, h4, h5, h6, h7, h8, h9, h10, h11, h12, h13⟩ := h
  exact ⟨h1, h2, h3, h4, h5, h6, h7, h8, h9, h10, h11, h12, h13⟩
section
variable {prog : Program} {w : World} {A : Around} {E : Value → Shared → Prop} {R : Result → Shared → Prop} {hp : Heap} {g : Array GenState} {d : Drawn} {t : Nat} {os : OsState} {K : Frag} {C x : Addr} {bmB : List Value} {newId : String} {name : Str} {tk : Tok} {v : Value}
theorem taker0 (ha : findIn K (.ref C) name = some none) : takerIn K C name = some none := by
  unfold takerIn
  rw [ha]
  rfl
/-- the first field of an exception -/
theorem xset_new {fv : Array Value} (B : XB bmB newId) (T : XC K C bmB newId) (X : K.In hp) (hx : hp.get? x = some { cls := .ref C, data := .fields fv }) (ha : findIn K (.ref C) name = some none)
    (fin : ∀ h' tk' dx, (∀ b o, b ≠ x → hp.get? b = some o → h'.get? b = some o) → hp.objs.size ≤ dx → dx ≠ x → h'.get? x = some { cls := .ref C, dict := some dx, data := .fields fv } →
      h'.Ns1 dx (fun y => if y = name then some v else none) → R (.ok (.ret .none)) ⟨h', g, d, tk', os⟩) :
    codeAny (model prog w) A (.call (.builtin "object.__setattr__") ⟨[.ref x, .str name tk, v], []⟩) R ⟨hp, g, d, t, os⟩ := by
  obtain ⟨Bn, ii, FB, SF⟩ := B.ex
  have xs : x ≠ hp.objs.size := Nat.ne_of_lt (Heap.lt_size hx)
  obtain ⟨cd, hcd, hdd⟩ := any_some T.dic
  have lk : Looks (model prog w) hp (classData C) cd := looks_clsIn X hcd
  refine osa_openX (s := ⟨hp, g, d, t, os⟩) (od := none) SF X ⟨hx, rfl, rfl, trivial⟩ T.ovr (taker0 ha) fun b => ?_
  obtain ⟨m1, m2, m3, m4, m5, m6, m7, m8, m9, m10, m11⟩ := cd
  dsimp only at hdd
  subst hdd
  dsimp only
  unfold Builtin.ObjectAttr.storeInOwnDict Builtin.ObjectAttr.ownDictForStores
  repeat (first
    | with_reducible refine HandSPX.store_in_new ?_ ?_
    | with_reducible refine wpAny_loadPart_at hx ?_
    | with_reducible refine lk.at ?_
    | wp_step)
  · exact ⟨_, #[], _, (Heap.get?_update_ne _ _ _ _ xs.symm).trans (Heap.get?_push_at rfl rfl), rfl, fun e he => absurd he (by simp), fun _ => rfl⟩
  · intro h' tk' hn sb
    have hx2 : (hp.push { cls := .type "dict", data := .dict #[] }).get? x = some { cls := .ref C, data := .fields fv } := Heap.get?_push_of_some _ hx
    refine fin h' tk' hp.objs.size (fun b o hb ho => ?_) (Nat.le_refl _) xs.symm ?_ hn
    · exact (sb.2 b (Nat.ne_of_lt (Heap.lt_size ho))).trans ((Heap.get?_update_ne _ _ _ _ hb).trans (Heap.get?_push_of_some _ ho))
    · exact (sb.2 x xs).trans (Heap.get?_update_self _ hx2 rfl)
/-- a further field -/
theorem xset_old {fv : Array Value} {dx : Addr} {m0 : Str → Option Value} {nl : List Str} (B : XB bmB newId) (T : XC K C bmB newId) (X : K.In hp) (hx : hp.get? x = some { cls := .ref C, dict := some dx, data := .fields fv })
    (hns : hp.Ns1 dx m0) (hw : Within m0 nl) (hz : nl.length ≤ 1000) (ha : findIn K (.ref C) name = some none)
    (fin : ∀ h' tk', (∀ b o, b ≠ dx → hp.get? b = some o → h'.get? b = some o) → h'.Ns1 dx (fun y => if y = name then some v else m0 y) → R (.ok (.ret .none)) ⟨h', g, d, tk', os⟩) :
    codeAny (model prog w) A (.call (.builtin "object.__setattr__") ⟨[.ref x, .str name tk, v], []⟩) R ⟨hp, g, d, t, os⟩ := by
  obtain ⟨Bn, ii, FB, SF⟩ := B.ex
  obtain ⟨oD, esD, epD, hoD, hdD, _⟩ := hns.count hw
  obtain ⟨cd, hcd, hdd⟩ := any_some T.dic
  have lk : Looks (model prog w) hp (classData C) cd := looks_clsIn X hcd
  refine osa_openX (s := ⟨hp, g, d, t, os⟩) (od := some oD) SF X ⟨hx, rfl, rfl, hoD⟩ T.ovr (taker0 ha) fun b => ?_
  obtain ⟨m1, m2, m3, m4, m5, m6, m7, m8, m9, m10, m11⟩ := cd
  dsimp only at hdd
  subst hdd
  dsimp only
  unfold Builtin.ObjectAttr.storeInOwnDict Builtin.ObjectAttr.ownDictForStores
  repeat (first
    | with_reducible refine OEX.store_in_old hns hw hz ?_
    | with_reducible refine wpAny_loadPart_at hx ?_
    | with_reducible refine lk.at ?_
    | wp_step)
  intro h' tk' hn sb
  exact fin h' tk' (fun b o hb ho => (sb.2 b hb).trans ho) hn
end
section
variable {X : Cx} {pins : List (Addr × Obj)} {σ : L2.St} {H : Hp} {s : Shared} {a C dx : Addr} {f : Str} {y : V} {u : Value} {fs : List (Str × V)} {Q : Unit → Shared → Prop} {E : Value → Shared → Prop} {A : Around} {bmB : List Value} {newId : String}
theorem xst_new (B : XB bmB newId) (T : XC X.K C bmB newId) (I : Inv X pins σ H s) (e : H a = some (exo a C none)) (hno : findIn X.K (.ref C) f = some none) (ry : RelV y u)
    (fin : ∀ dx s', H dx = none → dx ≠ a → Inv X pins σ (upd (upd H dx (exd dx [(f, y)])) a (exo a C (some dx))) s' → Q () s') : wpAny (model X.prog X.w) A (setAttr (.ref a) f u) Q E s := by
  obtain ⟨t1, ho⟩ := exo_at I.hok e
  obtain ⟨hp, g, d, t, os⟩ := s
  refine set_plain I.kIn (ox := { cls := .ref C, dict := none, data := .fields #[.ref t1, .none, .none, .none, .bool false, .none] }) (od := none) ⟨ho, rfl, rfl, trivial⟩ T.sa ?_
  refine xset_new B T I.kIn ho hno (fun h' tk' dx k dn dne hx hn => ?_)
  have fr : H dx = none := I.hok.fresh dn
  have nd : ∀ {b : Addr} {o : Obj}, hp.get? b = some o → b ≠ dx := fun {b o} z => Nat.ne_of_lt (Nat.lt_of_lt_of_le (Heap.lt_size z) dn)
  have na : ∀ {b : Addr}, H b = none → b ≠ a := fun {b} n z => by
    rw [z, e] at n
    cases n
  have UU : Un X.fs [] H (upd (upd H dx (exd dx [(f, y)])) a (exo a C (some dx))) hp h' :=
    { keep := fun b o z n _ _ => k b o (na n) z
      slot := fun b o z n _ _ => ⟨o.slots, k b o (na n) z⟩
      free := fun b o z n _ => by
        rw [upd_ne (na n), upd_ne (nd z)]
        exact n
      there := fun b o z _ => by
        by_cases hb : b = a
        · exact ⟨_, by rw [hb]; exact hx⟩
        · exact ⟨o, k b o hb z⟩
      tups := fun b xs z => by
        rw [upd_ne (at_ne e z exo_tup), upd_ne (ne_of_none z fr)]
        exact z
      frzs := fun b o v z => by
        rw [upd_ne (at_ne e z exo_frz), upd_ne (ne_of_none z fr)]
        exact z
      tbls := fun b ps z => ⟨#[], by rw [upd_ne (at_ne e z exo_tbl), upd_ne (ne_of_none z fr), z]; simp⟩ }
  refine fin dx _ fr dne (I.un (t' := tk') UU fun b o z => ?_)
  by_cases hb : b = a
  · subst hb
    rw [upd_same] at z
    cases z
    exact exo_ok hx
  · rw [upd_ne hb] at z
    by_cases hd : b = dx
    · subst hd
      rw [upd_same] at z
      cases z
      exact exd_ok hn (relO_put (fs := []) ry fun g => True.intro)
    · rw [upd_ne hd] at z
      refine (I.hok b o z).stay (fun c v hc r => k c v ?_ r) (fun c hc => ?_) (fun c xs hc => ?_)
      · rcases hc with hc | hc
        · rw [hc]
          exact hb
        · exact at_ne e hc exo_own
      · rw [upd_ne (at_ne e hc exo_own), upd_ne (ne_of_none hc fr)]
        exact hc
      · rw [upd_ne (at_ne e hc exo_tup), upd_ne (ne_of_none hc fr)]
        exact hc
theorem xst_old (B : XB bmB newId) (T : XC X.K C bmB newId) (I : Inv X pins σ H s) (e : H a = some (exo a C (some dx))) (ed : H dx = some (exd dx fs)) (hl : fs.length ≤ 900) (hno : findIn X.K (.ref C) f = some none) (ry : RelV y u)
    (fin : ∀ s', Inv X pins σ (upd H dx (exd dx ((f, y) :: fs))) s' → Q () s') : wpAny (model X.prog X.w) A (setAttr (.ref a) f u) Q E s := by
  obtain ⟨t1, ho⟩ := exo_at I.hok e
  obtain ⟨mA, hns, rel⟩ := exd_at I.hok ed
  have hw := within_of rel
  obtain ⟨hp, g, d, t, os⟩ := s
  obtain ⟨oD, _, _, hoD, _, _⟩ := hns.count hw
  refine set_plain I.kIn (ox := { cls := .ref C, dict := some dx, data := .fields #[.ref t1, .none, .none, .none, .bool false, .none] }) (od := some oD) ⟨ho, rfl, rfl, hoD⟩ T.sa ?_
  refine xset_old B T I.kIn ho hns hw (by rw [List.length_map]; omega) hno (fun h' tk' k hn => ?_)
  have hd : ∃ o, h'.get? dx = some o := by
    obtain ⟨o, _, _, e', _⟩ := hn
    exact ⟨o, e'⟩
  exact fin _ (I.write (t' := tk') (x := dx) (e := dx) (o := exd dx ((f, y) :: fs)) (by rw [ed]; exact True.intro) (.inl rfl) k hd (exd_ok hn (relO_put ry rel)))
end
/-- self.f = e, self an exception -/
def tXst (K : Frag) (f : Str) (to te : TE) : TS := fun D σ H => te σ H fun y H1 => to σ H1 fun x H2 => ∃ (a C : Addr) (bmB : List Value) (newId : String), x = .ref a ∧ XB bmB newId ∧ XC K C bmB newId ∧ findIn K (.ref C) f = some none ∧
  ((H2 a = some (exo a C none) ∧ ∀ dx, H2 dx = none → dx ≠ a → D.nx σ (upd (upd H2 dx (exd dx [(f, y)])) a (exo a C (some dx)))) ∨
    ∃ (dx : Addr) (fs : List (Str × V)), H2 a = some (exo a C (some dx)) ∧ H2 dx = some (exd dx fs) ∧ fs.length ≤ 900 ∧ D.nx σ (upd H2 dx (exd dx ((f, y) :: fs))))
/-- C(..), C an own exception class with an __init__ of its own: a new exception -/
def tXnew (C : Addr) (n m : Nat) (sp : Sp) (gV : List V → List V → List V) (t tk : TA) : TE := fun σ H Q => t σ H fun vs H1 => tk σ H1 fun zs H2 => vs.length = n ∧ zs.length = m ∧ n ≤ 1000 ∧
  ∀ a, H2 a = none → sp (gV (.ref a :: vs) zs) (upd H2 a (exo a C none)) (fun v H3 => v = .non ∧ Q (.ref a) H3) (fun _ _ _ => False)
section
variable {X : Cx} {o e : Expr} {es : List Expr} {kws : List Keyword} {to te : TE} {t tk : TA} {f : Str} {p p' p1 p2 pos : Pos} {bmB : List Value} {newId : String}
theorem ps_xst (ho : PE X o to) (he : PE X e te) (hs : swapsWith e (some (.Attribute o f p')) pos.line X.env = pure false := by rfl) : PS X (.Assign [.Attribute o f p'] e pos) (tXst X.K f to te) := by
  refine ⟨fun pins s σ H D I h => ?_⟩
  refine plainObj_wpAny_Assign_Attribute (thn (he.run pins s σ H _ I h) fun v s1 z => ?_) hs
  obtain ⟨y, H1, I1, r1, q1⟩ := z
  refine thn (ho.run pins s1 σ H1 _ I1 q1) fun u s2 z2 => ?_
  obtain ⟨x, H2, I2, r2, a, C, bb, nn, ex, B, T, hno, q⟩ := z2
  subst ex
  cases (show u = Value.ref a from r2)
  rcases q with ⟨ea, q⟩ | ⟨dx, fs, ea, ed, hl, q⟩
  · exact xst_new B T I2 ea hno r1 fun dx s' n ne J => ⟨σ, _, J, q dx n ne⟩
  · exact xst_old B T I2 ea ed hl hno r1 fun s' J => ⟨σ, _, J, q⟩
variable {CX : CXT} {x : Str} {C fI : Addr} {k n : Nat} {fd : FuncData} {ps ks : List Str} {sp : Sp} {gg : List Value → List Value → List Value} {gV : List V → List V → List V}
theorem xnew_run {pins : List (Addr × Obj)} {σ : L2.St} {H : Hp} {s : Shared} {Q : VK} {us ws : List Value} {vs zs : List V} (B : XB bmB newId) (T : XC X.K C bmB newId) (iC : findIn X.K (.ref C) "__init__" = some (some (.ref fI))) (tI : typeIn X.K (.ref fI) = some (.type "function"))
    (F1 : FnOk X.prog X.w X.K X.mg X.base CX k fI fd ps sp) (hr : Room (k + 1) X.A) (hb : KBn X.K fd ps (n + 1) ks gg gV) (hx : Passes CX X (fun _ _ _ => False)) (I1 : Inv X pins σ H s) (r1 : Vals vs us) (rz : Vals zs ws) (l1 : vs.length = n) (l2 : zs.length = ks.length) (hz : n ≤ 1000)
    (q1 : ∀ a, H a = none → sp (gV (.ref a :: vs) zs) (upd H a (exo a C none)) (fun v H3 => v = .non ∧ Q (.ref a) H3) (fun _ _ _ => False)) :
    wpAny (model X.prog X.w) X.A (call (.ref C) us (ks.zip ws)) (EP X pins σ Q) X.xe s := by
  obtain ⟨Bn, ii, FB, SF⟩ := B.ex
  obtain ⟨nm, N', qn, bs, bm, hdct, sn, sub, ab, col, dd, k0, k1, k2, k3, k5, hC, hT⟩ := excInit_of I1.kIn T.ini
  obtain ⟨hp, g, dr, tk, os⟩ := s
  have sz : hp.objs.size ≤ hp.objs.size + 1 := Nat.le_succ _
  have hn : H (hp.objs.size + 1) = none := I1.hok.fresh sz
  have hq := q1 (hp.objs.size + 1) hn
  have kk : ∀ b o, hp.get? b = some o → ((hp.push (kdv_tup us)).push (HandSPX.excO C hp.objs.size)).get? b = some o := fun b o e => Heap.get?_push_of_some _ (Heap.get?_push_of_some _ e)
  have hget : ((hp.push (kdv_tup us)).push (HandSPX.excO C hp.objs.size)).get? (hp.objs.size + 1) = some (HandSPX.excO C hp.objs.size) := by heap_get
  have I2 : Inv X pins σ (upd H (hp.objs.size + 1) (exo (hp.objs.size + 1) C none)) ⟨(hp.push (kdv_tup us)).push (HandSPX.excO C hp.objs.size), g, dr, tk, os⟩ :=
    I1.laid (t' := tk) (a := hp.objs.size + 1) (o := exo (hp.objs.size + 1) C none) (h' := (hp.push (kdv_tup us)).push (HandSPX.excO C hp.objs.size)) kk sz (exo_ok hget)
  have e1 : us.length = n := r1.length.symm.trans l1
  have e2 : ws.length = ks.length := rz.length.symm.trans l2
  have r2 := hb.rel (Paired.cons (show RelV (V.ref (hp.objs.size + 1)) (Value.ref (hp.objs.size + 1)) from rfl) r1) rz
  have hus : us.length ≤ sizeLine := by rw [e1, sizeLine_eq]; omega
  refine wpAny_call (kwCall FB hT hC (looks_findIn I1.kIn iC) (fun self => bind_fn I1.kIn self tI) hus
    (codeAny_mono (F1.run _ X.stack _ _ ⟨Value.ref (hp.objs.size + 1) :: us, ks.zip ws⟩ (gg (Value.ref (hp.objs.size + 1) :: us) ws) _ _ (fun _ _ _ => False) (hr.make C us (ks.zip ws)) (I2.env0.make C us (ks.zip ws))
      (hb.to _ (Value.ref (hp.objs.size + 1) :: us) ws I2.kIn (by rw [List.length_cons, e1]) e2) r2 hq) fun r s' hq' => ?_))
  cases r with
  | error er => exact hx pins σ _ _ er s' I2 hq'
  | ok fl =>
    cases fl with
    | ret u =>
      obtain ⟨v, H3, I3, rv, ev, q3⟩ := I2.after hq'
      subst ev
      exact ⟨rv, ⟨V.ref (hp.objs.size + 1), H3, I3, rfl, q3⟩⟩
    | next => exact False.elim hq'
    | brk => exact False.elim hq'
    | cont => exact False.elim hq'
/-- C(e, ..) -/
theorem pe_xnew (B : XB bmB newId) (T : XC X.K C bmB newId) (iC : findIn X.K (.ref C) "__init__" = some (some (.ref fI))) (tI : typeIn X.K (.ref fI) = some (.type "function"))
    (F1 : FnOk X.prog X.w X.K X.mg X.base CX k fI fd ps sp) (hr : Room (k + 1) X.A) (hb : KBn X.K fd ps (n + 1) [] gg gV) (hx : Passes CX X (fun _ _ _ => False)) (hg : Gl X x) (hm : X.mg x = some (.ref C)) (ha : PA X (e :: es) t)
    (hdb : (x == ("__debug__" : Str)) = false := by decide) (he : starEach (e :: es) X.env = (false, eval e X.env) :: starEach es X.env := by rfl) (hpl : (backTo pos (starEach es X.env)).any (·.1) = false := by rfl) :
    PE X (.Call (.Name x p) (e :: es) [] pos) (tXnew C n 0 sp gV t tNil) := by
  refine ⟨fun pins s σ H Q I h => ?_⟩
  refine wpAny_Call_Name_kw (ld_glob I hg hm ?_ hdb)
  refine callWith_K (h₀ := X.base) I.ok.mod.kin T.kp (thn (ha.run pos pins s σ H _ I h) fun us s1 z => ?_) he hpl
  obtain ⟨vs, H1, I1, r1, l1, l2, hz, q1⟩ := z
  exact ⟨I1.kIn, xnew_run (ks := []) (ws := []) (zs := []) B T iC tI F1 hr hb hx I1 r1 .nil l1 rfl hz q1⟩
/-- C() -/
theorem pe_xnew0 (B : XB bmB newId) (T : XC X.K C bmB newId) (iC : findIn X.K (.ref C) "__init__" = some (some (.ref fI))) (tI : typeIn X.K (.ref fI) = some (.type "function"))
    (F1 : FnOk X.prog X.w X.K X.mg X.base CX k fI fd ps sp) (hr : Room (k + 1) X.A) (hb : KBn X.K fd ps 1 [] gg gV) (hx : Passes CX X (fun _ _ _ => False)) (hg : Gl X x) (hm : X.mg x = some (.ref C))
    (hdb : (x == ("__debug__" : Str)) = false := by decide) : PE X (.Call (.Name x p) [] [] pos) (tXnew C 0 0 sp gV tNil tNil) := by
  refine ⟨fun pins s σ H Q I h => ?_⟩
  refine wpAny_Call_Name_kw (ld_glob I hg hm ?_ hdb)
  obtain ⟨l1, l2, hz, q1⟩ := h
  exact callWith_K0 I.kIn T.kp (xnew_run (ks := []) (ws := []) (zs := []) (us := []) (vs := []) (n := 0) B T iC tI F1 hr hb hx I .nil .nil rfl rfl hz q1)
/-- C(k = e, ..) -/
theorem pe_xnewK (B : XB bmB newId) (T : XC X.K C bmB newId) (iC : findIn X.K (.ref C) "__init__" = some (some (.ref fI))) (tI : typeIn X.K (.ref fI) = some (.type "function"))
    (F1 : FnOk X.prog X.w X.K X.mg X.base CX k fI fd ps sp) (hr : Room (k + 1) X.A) (hb : KBn X.K fd ps 1 ks gg gV) (hx : Passes CX X (fun _ _ _ => False)) (hg : Gl X x) (hm : X.mg x = some (.ref C)) (hkw : PK X kws tk)
    (hall : (backToKw pos (keywordEach kws X.env)).all (·.1.isSome) = true := by rfl) (hks : (backToKw pos (keywordEach kws X.env)).filterMap (·.1) = ks := by rfl) (hdb : (x == ("__debug__" : Str)) = false := by decide)
    (hpl : ((backTo pos (starEach [] X.env)).any (·.1) || (backToKw pos (keywordEach kws X.env)).any (·.1.isNone)) = false := by rfl) :
    PE X (.Call (.Name x p) [] kws pos) (tXnew C 0 ks.length sp gV tNil tk) := by
  refine ⟨fun pins s σ H Q I h => ?_⟩
  refine wpAny_Call_Name_kw (ld_glob I hg hm ?_ hdb)
  refine callWith_KW0 (h₀ := X.base) I.ok.mod.kin T.kp hall (thn (hkw.run pos pins s σ H _ I h) fun ws s2 z => ?_) hpl
  obtain ⟨zs, H2, I2, rz, l1, l2, hz, q2⟩ := z
  refine ⟨I2.kIn, ?_⟩
  rw [hks]
  exact xnew_run (us := []) (vs := []) (n := 0) B T iC tI F1 hr hb hx I2 .nil rz rfl l2 hz q2
/-- C(), C without an __init__ of its own -/
theorem pe_xbare {Bn ii : String} (FB : ExcBaseFacts Bn newId ii bmB) (q : excIn X.K C bmB newId = true) (kC : keepIn X.K (.ref C) = true) (hg : Gl X x) (hm : X.mg x = some (.ref C)) (hdb : (x == ("__debug__" : Str)) = false := by decide) :
    PE X (.Call (.Name x p) [] [] pos) (fun σ H Q => ∀ a, H a = none → Q (.ref a) (upd H a (exo a C none))) := by
  refine ⟨fun pins s σ H Q I h => ?_⟩
  refine wpAny_Call_Name_kw (ld_glob I hg hm ?_ hdb)
  refine callWith_K0 I.kIn kC ?_
  show wpAny _ _ (call (.ref C) []) _ _ _
  obtain ⟨bm, N, nm, qn, bs, hdct, sn, sub, ab, col, dd, k0, k1, k2, k3, k5, mN, hC, hN, hni, T⟩ := exc_obj I.kIn q
  refine wpAny_call_exc_subT FB T hC hN hni (fun h' a hm => ?_) (Nat.zero_le _)
  have hn : H a = none := I.hok.gone hm.new
  obtain ⟨t, ht, _, _⟩ := hm.there
  exact ⟨.ref a, upd H a (exo a C none), I.laidN hm.keeps hm.new hn (exo_ok ht), rfl, h a hn⟩
end
end Pb

namespace Pb
open PySem PySem.W PyProof.Rows L2
/-- an exception that was caught and is kept: at a, of the class D, its dict -/
def exk (a : Addr) (D : Value) (d : Option Addr) : HO := .ext fun h => ∃ (oe : Obj) (vs : Array Value), h.get? a = some oe ∧ Zc D d oe ∧ oe.data = .fields vs
/-- an exception of the class at D, made or kept; its fields, if it has any -/
def ExI (H : Hp) (a D : Addr) : Option (List (Str × V)) → Prop
  | none => H a = some (exo a D none) ∨ H a = some (exk a (.ref D) none)
  | some fs => ∃ dx, (H a = some (exo a D (some dx)) ∧ H dx = some (exd dx fs)) ∨ (H a = some (exk a (.ref D) (some dx)) ∧ H dx = some (.xd fs))
theorem exk_ok {P : Program} {w : World} {H : Hp} {h : Heap} {a : Addr} {D : Value} {d : Option Addr} {oe : Obj} {vs : Array Value} (e : h.get? a = some oe) (z : Zc D d oe) (dd : oe.data = .fields vs) : ObjOk P w H h a (exk a D d) :=
  ⟨⟨oe, vs, e, z, dd⟩, ⟨oe, e⟩, fun _ _ ⟨o, v, q, r⟩ k => ⟨o, v, k o q, r⟩⟩
theorem exk_at {P : Program} {w : World} {H : Hp} {h : Heap} {a : Addr} {D : Value} {d : Option Addr} (hok : HOk P w H h) (e : H a = some (exk a D d)) : ∃ (oe : Obj) (vs : Array Value), h.get? a = some oe ∧ Zc D d oe ∧ oe.data = .fields vs := by
  have x : ObjOk P w H h a (.ext fun h => ∃ (oe : Obj) (vs : Array Value), h.get? a = some oe ∧ Zc D d oe ∧ oe.data = .fields vs) := hok a _ e
  exact x.1
theorem exI_inst {P : Program} {w : World} {H : Hp} {h : Heap} {a D : Addr} {fs : Option (List (Str × V))} (hok : HOk P w H h) (x : ExI H a D fs) :
    ∃ ox od, InstAt h a ox D od ∧ ∀ l, fs = some l → ∃ o, od = some o ∧ ∀ n v, l.lookup n = some v → ∃ u, lookIn n o = some (some u) ∧ RelV v u := by
  have fin : ∀ {dx : Addr} {ox : Obj} {vs : Array Value} {l : List (Str × V)} {mA : Str → Option Value}, h.get? a = some ox → ox.cls = .ref D → ox.dict = some dx → ox.data = .fields vs → h.Ns1 dx mA → (∀ f, RelO (l.lookup f) (mA f)) →
      ∃ ox od, InstAt h a ox D od ∧ ∀ l', some l = some l' → ∃ o, od = some o ∧ ∀ n v, l'.lookup n = some v → ∃ u, lookIn n o = some (some u) ∧ RelV v u := fun {dx ox vs l mA} e c dd dt hn rel => by
    obtain ⟨od, ho, hl⟩ := lookIn_ns hn
    refine ⟨ox, some od, ⟨e, c, by unfold notCls; rw [dt], by rw [dd]; exact ho⟩, fun l' el => ⟨od, rfl, fun n v hv => ?_⟩⟩
    cases el
    obtain ⟨u, hu, ru⟩ := RelO.some_of (v := v) (o := mA n) (by rw [← hv]; exact rel n)
    exact ⟨u, by rw [hl, hu], ru⟩
  cases fs with
  | none =>
    rcases x with x | x
    · obtain ⟨t1, e⟩ := exo_at hok x
      exact ⟨_, none, ⟨e, rfl, rfl, trivial⟩, fun l z => by cases z⟩
    · obtain ⟨oe, vs, e, z, dt⟩ := exk_at hok x
      exact ⟨oe, none, ⟨e, z.1, by unfold notCls; rw [dt], by rw [z.2]; trivial⟩, fun l z => by cases z⟩
  | some l =>
    obtain ⟨dx, ⟨x, y⟩ | ⟨x, y⟩⟩ := x
    · obtain ⟨t1, e⟩ := exo_at hok x
      obtain ⟨mA, hn, rel⟩ := exd_at hok y
      exact fin e rfl rfl rfl hn rel
    · obtain ⟨oe, vs, e, z, dt⟩ := exk_at hok x
      obtain ⟨mA, hn, rel⟩ := hok dx _ y
      exact fin e z.1 z.2 dt hn rel
/-- isinstance(e, c) of such an exception, c a class -/
def rIsX (K : Frag) : List V → Hp → VK → Prop := fun xs H Q => ∃ (a D : Addr) (fs : Option (List (Str × V))) (bmB : List Value) (newId : String) (c : V) (cv : Value) (b : Bool),
  xs = [.ref a, c] ∧ ExI H a D fs ∧ XC K D bmB newId ∧ RelV c cv ∧ (∀ u, RelV c u → u = cv) ∧ kitOne K (.ref D) cv = some b ∧ Q (.bl b) H
/-- .. c a tuple of classes -/
def rIsXT (K : Frag) : List V → Hp → VK → Prop := fun xs H Q => ∃ (a D t : Addr) (fs : Option (List (Str × V))) (bmB : List Value) (newId : String) (cs : List V) (cvs : List Value) (b : Bool),
  xs = [.ref a, .ref t] ∧ ExI H a D fs ∧ XC K D bmB newId ∧ SqT K H t cs ∧ (∀ us, Vals cs us → us = cvs) ∧ kitAny K (.ref D) cvs = some b ∧ Q (.bl b) H
section
variable {X : Cx}
theorem xc_cls {K : Frag} {C : Addr} {bmB : List Value} {newId : String} (T : XC K C bmB newId) : (clsIn K C).isSome = true := by
  obtain ⟨cd, h, _⟩ := any_some T.dic
  rw [h]
  rfl
theorem call_isX : CallR X (.builtin "isinstance") (rIsX X.K) := by
  intro pins s σ H xs us Q I r hyp
  obtain ⟨a, D, fs, bmB, newId, c, cv, b, ex, hx, T, _, hcv, e, q⟩ := hyp
  subst ex
  cases r with
  | cons rx rr =>
    cases rr with
    | cons rt rn =>
      cases rn
      cases rx
      have ec := hcv _ rt
      subst ec
      obtain ⟨ox, od, J, _⟩ := exI_inst I.hok hx
      exact kia_one (kitx_exc (xc_cls T) T.ga T.gg T.sub T.cl T.sg T.tk T.ob) I.kIn J e (fun z => nomatch z) fun tk => ⟨.bl b, H, I.kept (t' := tk) fun _ _ z => z, rfl, q⟩
theorem call_isXT : CallR X (.builtin "isinstance") (rIsXT X.K) := by
  intro pins s σ H xs us Q I r hyp
  obtain ⟨a, D, t, fs, bmB, newId, cs, cvs, b, ex, hx, T, hT, hcv, e, q⟩ := hyp
  subst ex
  cases r with
  | cons rx rr =>
    cases rr with
    | cons rt rn =>
      cases rn
      cases rx
      cases rt
      obtain ⟨its, rv, ⟨o, g1, g2, n, g3⟩, _⟩ := I.tuple hT
      have ec := hcv _ rv
      subst ec
      obtain ⟨oc, od, oda, osl⟩ := o
      dsimp only at g2 g3
      subst g2 g3
      obtain ⟨ox, od', J, _⟩ := exI_inst I.hok hx
      exact kia_tup (kitx_exc (xc_cls T) T.ga T.gg T.sub T.cl T.sg T.tk T.ob) I.kIn J g1 e (fun z => nomatch z) fun tk => ⟨.bl b, H, I.kept (t' := tk) fun _ _ z => z, rfl, q⟩
/-- e.f of such an exception -/
def tXfld (K : Frag) (n : Str) (te : TE) : TE := fun σ H Q => te σ H fun x H1 => ∃ (a D : Addr) (fs : List (Str × V)) (bmB : List Value) (newId : String) (v : V), x = .ref a ∧ ExI H1 a D (some fs) ∧ XC K D bmB newId ∧ findIn K (.ref D) n = some none ∧ fs.lookup n = some v ∧ Q v H1
theorem pe_xfld {e : Expr} {te : TE} {pos : Pos} {n : Str} (he : PE X e te) (hb : attributeBase e n X.env (eval e X.env) = eval e X.env := by rfl) : PE X (.Attribute e n pos) (tXfld X.K n te) := by
  refine ⟨fun pins s σ H Q I h => ?_⟩
  refine attr_of hb (thn (he.run pins s σ H _ I h) fun u s1 hh => ?_)
  obtain ⟨x, H1, I1, rx, a, D, fs, bmB, newId, v, ex, hx, T, hno, hl, q⟩ := hh
  subst ex
  cases (show u = Value.ref a from rx)
  obtain ⟨ox, od, J, hf⟩ := exI_inst I1.hok hx
  obtain ⟨o, eo, look⟩ := hf fs rfl
  subst eo
  obtain ⟨u, hu, ru⟩ := look n v hl
  exact HandSPX.exc_get I1.kIn J T.ga T.gg T.sub (findObj_own T.dic hno rfl hu) (handed_of ru) ⟨v, H1, I1.tok _, ru, q⟩
/-- what is tracked at an address may be tracked otherwise, nothing being written -/
theorem retrack {pins : List (Addr × Obj)} {σ : L2.St} {H : Hp} {s : Shared} {x : Addr} {o : HO} (I : Inv X pins σ H s) (mu : Mut (H x)) (there : ∃ u, s.heap.get? x = some u) (new : ObjOk X.prog X.w (upd H x o) s.heap x o) : Inv X pins σ (upd H x o) s :=
  I.write (t' := s.toks) (x := x) (e := x) (h' := s.heap) mu (.inl rfl) (fun b u _ z => z) there new
/-- an expression that gives a new exception with fields, raised -/
theorem pmk_x {e : Expr} {te : TE} (hx : X.ex = []) (he : PE X e te) :
    PMk X e (fun σ H Q => te σ H fun x H1 => ∃ (a C d : Addr) (fs : List (Str × V)), x = .ref a ∧ H1 a = some (exo a C (some d)) ∧ H1 d = some (exd d fs) ∧ d ≠ a ∧ Fr0 X.H_0 a ∧ Raises X (.ref C) ∧ Q (.ref C) (some d) (delH (upd H1 d (.xd fs)) a)) := by
  intro pins s σ H Q I h
  refine wpAny_mono (he.run pins s σ H _ I h) (fun u s1 hu => ?_) fun _ _ x => x
  obtain ⟨v, H1, I1, r1, a, C, d, fs, rfl, ha, hd, da, h0, hr, q⟩ := hu
  cases r1
  obtain ⟨mA, hn, rel⟩ := exd_at I1.hok hd
  have thd : ∃ u, s1.heap.get? d = some u := by
    obtain ⟨o, _, _, e', _⟩ := id hn
    exact ⟨o, e'⟩
  have I2 : Inv X pins σ (upd H1 d (.xd fs)) s1 := retrack I1 (by rw [hd]; exact True.intro) thd ⟨mA, hn, rel⟩
  have ha2 : (upd H1 d (.xd fs)) a = some (exo a C (some d)) := by
    rw [upd_ne (Ne.symm da)]
    exact ha
  obtain ⟨t1, ho⟩ := exo_at I2.hok ha2
  obtain ⟨G, gs, ga, J⟩ := I2.untrack ha2 h0 hx
  exact ⟨a, _, _, { s1 with heap := G }, delH (upd H1 d (.xd fs)) a, .ref C, some d, rfl, J, gs, ga, ho, ⟨rfl, rfl⟩, rfl, rfl, delH_same, rfl, I1.bare, hr, q⟩
end
end Pb

namespace Pb
open PySem PySem.W PyProof.Rows L2
/-- the clause tx of an except: by what an exception's class tells, it matches or not -/
def Clause (X : Cx) (tx : Expr) (CL : Value → Option Bool) : Prop :=
  ∀ (a : Addr) (oe : Obj) (pn pins : List (Addr × Obj)) (σ : L2.St) (H : Hp) (s : Shared) (cls : Value) (b : Bool) (Q : Value → Shared → Prop) (E : Value → Shared → Prop), Inv (X.suite a ((a, oe) :: pn)) pins σ H s →
    Looks (model X.prog X.w) s.heap (typeOf (.ref a)) cls → CL cls = some b →
    (∀ cv h', (∀ c o, s.heap.get? c = some o → h'.get? c = some o) → Looks (model X.prog X.w) h' (excMatches (.ref a) cv) b → Q cv { s with heap := h' }) →
    wpAny (model X.prog X.w) (X.A.mark (some (.ref a))) (eval tx X.env) Q E s
section
variable {X : Cx} {x y : Str} {c c' : Value} {np nq pos : Pos}
theorem cl_one (hc : Names X x c) : Clause X (.Name x np) (fun cls => exmOne X.K cls c) := by
  intro a oe pn pins σ H s cls b Q E S LT e fin
  have q := fin c s.heap (fun _ _ z => z) (exm_one (M := model X.prog X.w) S.kIn LT e)
  obtain ⟨hg, hdbg, hm | ⟨hm, hv, hnn⟩⟩ := hc
  · exact ld_glob (X := X.suite a ((a, oe) :: pn)) S hg hm q hdbg
  · exact ld_blt (X := X.suite a ((a, oe) :: pn)) S hg hm hv q hnn hdbg
theorem cl_two {k1} (hg : Gl X x) (hm : X.mg x = some c) (hg' : Gl X y) (hm' : X.mg y = some c') (hx : (x == ("__debug__" : Str)) = false := by decide) (hy : (y == ("__debug__" : Str)) = false := by decide)
    (hst : starEach [.Name x np, .Name y nq] X.env = [(false, eval (.Name x np) X.env), (false, eval (.Name y nq) X.env)] := by rfl) : Clause X (.Tuple [.Name x np, .Name y nq] k1 pos) (fun cls => exmAny X.K cls [c, c']) := by
  intro a oe pn pins σ H s cls b Q E S LT e fin
  refine wpAny_Tuple_spliced ?_
  rw [hst]
  show wpAny _ _ (spliced ((false, eval (.Name x np) X.env) :: (false, eval (.Name y nq) X.env) :: [])) _ _ _
  refine Calls.spliced_cons (ld_glob (X := X.suite a ((a, oe) :: pn)) S hg hm ?_ hx)
  refine Calls.spliced_cons (ld_glob (X := X.suite a ((a, oe) :: pn)) S hg' hm' ?_ hy)
  refine Calls.spliced_nil ⟨(by show 2 ≤ sizeLine; decide), ?_⟩
  have kp : ∀ d o, s.heap.get? d = some o → (s.heap.push { cls := .type "tuple", data := .seq [c, c'].toArray }).get? d = some o := fun d o z => Heap.get?_push_of_some _ z
  exact fin _ _ kp (exm_tup2 (M := model X.prog X.w) (S.kIn.keeps kp) (LT.keeps kp) (Heap.get?_push_size _ rfl) e)
end
section
variable {X : Cx} {pins : List (Addr × Obj)} {σ : L2.St} {H : Hp} {s : Shared}
/-- an object that is held fast, and wasn't there at the entry, is tracked from now on -/
theorem track {a : Addr} {oe : Obj} {vs : Array Value} {cls : Value} {d : Option Addr} (I : Inv X ((a, oe) :: pins) σ H s) (h0 : X.s_0.heap.get? a = none) (dt : oe.data = .fields vs) (hz : Zc cls d oe) (hp : ∀ p ∈ X.pn ++ pins, p.1 ≠ a) :
    Inv X pins σ (upd H a (exk a cls d)) s := by
  obtain ⟨ga, na, nL, nF, _⟩ := I.pin (a, oe) (List.mem_append_right _ List.mem_cons_self)
  dsimp only at ga na nL nF
  have neS : ∀ {b : Addr} {o : Obj}, X.s_0.heap.get? b = some o → b ≠ a := fun {b o} z e => by
    rw [e, h0] at z
    cases z
  have neH : ∀ {b : Addr} {o : HO}, H b = some o → b ≠ a := fun {b o} z e => by
    rw [e, na] at z
    cases z
  refine { ok := I.ok, os := I.os, bare := I.bare, base := ?_, loc := I.loc, cell := I.cell, free := ?_, freeC := fun x c e => ?_, pin := fun p hq => ?_, hok := fun b o e => ?_, len := I.len }
  · exact { keep := I.base.keep
            slot := I.base.slot
            free := fun b o z n hx => by rw [upd_ne (neS z)]; exact I.base.free b o z n hx
            there := I.base.there
            tups := fun b xs z => by rw [upd_ne (neH (I.base.tups b xs z))]; exact I.base.tups b xs z
            frzs := fun b o u z => by rw [upd_ne (neH (I.base.frzs b o u z))]; exact I.base.frzs b o u z
            tbls := fun b ps z => by
              obtain ⟨more, y⟩ := I.base.tbls b ps z
              exact ⟨more, by rw [upd_ne (neH y)]; exact y⟩ }
  · rw [upd_ne nL.symm]
    exact I.free
  · obtain ⟨v, o, go, dc⟩ := I.cell x c e
    have nc : c ≠ a := fun z => by
      rw [z, ga] at go
      cases go
      rw [dt] at dc
      cases dc
    rw [upd_ne nc]
    exact I.freeC x c e
  · have hq' : p ∈ X.pn ++ (a, oe) :: pins := by
      rcases List.mem_append.mp hq with z | z
      · exact List.mem_append_left _ z
      · exact List.mem_append_right _ (List.mem_cons_of_mem _ z)
    obtain ⟨g1, g2, g3⟩ := I.pin p hq'
    exact ⟨g1, by rw [upd_ne (hp p hq)]; exact g2, g3⟩
  · by_cases hb : b = a
    · subst hb
      rw [upd_same] at e
      cases e
      exact exk_ok ga hz dt
    · rw [upd_ne hb] at e
      exact (I.hok b o e).stay (fun _ _ _ z => z) (fun c z => by rw [upd_ne (neH z)]; exact z) fun c xs z => by rw [upd_ne (neH z)]; exact z
end
/-- what «except tx as n» wishes of an exception: behind the suite it is kept (slot i, n's, is empty) -/
def wG (CL : Value → Option Bool) (i : Nat) (ts : Addr → Value → Option Addr → TS) (Wout : WX) (D : Ends) : WX := fun cls d σ H => ∃ b, CL cls = some b ∧
  (b = true → ∀ a, H a = none → ts a cls d
    { nx := fun σ' H' => H' a = none → D.nx (σ'.set i none) (upd H' a (exk a cls d)), rt := fun v H' => H' a = none → D.rt v (upd H' a (exk a cls d)),
      bk := fun σ' H' => H' a = none → D.bk (σ'.set i none) (upd H' a (exk a cls d)), ct := fun σ' H' => H' a = none → D.ct (σ'.set i none) (upd H' a (exk a cls d)) } (σ.set i (some (.ref a))) H) ∧
  (b = false → Wout cls d σ H)
theorem fly_push {B h h' : Heap} {l : List Env} {e : Addr} {Z : Obj → Prop} (x : HandSPX.FlyingZ B l e Z h) (k : ∀ c o, h.get? c = some o → h'.get? c = some o) : HandSPX.FlyingZ B l e Z h' := by
  obtain ⟨x1, x2, x3, oe, vs, T, oT, ts, y1, y2, y3, y4, y5, y6, y7, y8, y9⟩ := x
  exact ⟨fun b o z => k b o (x1 b o z), x2, x3.of_keeps fun b o z _ => ⟨o, k b o z, rfl⟩, oe, vs, T, oT, ts, k _ _ y1, y2, y3, y4, y5, y6, k _ _ y7, y8, y9⟩
theorem slots_push {h h1 h2 : Heap} (x : h.UpToSlots h1) (k : ∀ c o, h1.get? c = some o → h2.get? c = some o) : h.UpToSlots h2 := fun b o z n => by
  obtain ⟨sl, y⟩ := x b o z n
  exact ⟨sl, k _ _ y⟩
section
variable {X : Cx} {n : Str} {tx : Expr} {CL : Value → Option Bool} {i : Nat} {body suite : List Stmt} {b₀ : Stmt} {pos pos' : Pos} {tb : WX → TS} {ts : Addr → Value → Option Addr → TS} {Wout : WX}
theorem ps_tryG (hs : X.stack = X.env :: X.outer) (hf : X.env.frame = some X.env.locals) (hex : X.ex = []) (hN : X.N.Nodup) (hi : X.N[i]? = some n) (hln : X.env.kindOf n = some .local) (hc : Clause X tx CL) (tk : Takes X Wout)
    (hb : ∀ (W : WX) (pn : List (Addr × Obj)) (xe : Value → Shared → Prop), Takes (X.tr pn xe) W → PassesOwn (model X.prog X.w) X.A X.env xe → PSs (X.tr pn xe) body (tb W))
    (hsu : ∀ (a : Addr) (oe : Obj) (cls : Value) (d : Option Addr) (pn : List (Addr × Obj)), Zc cls d oe → (∃ vs, oe.data = .fields vs) → PSs (X.suite a ((a, oe) :: pn)) (b₀ :: suite) (ts a cls d)) :
    PS X (.Try body [.ExceptHandler (some tx) (some n) (b₀ :: suite) pos'] [] [] pos) (fun D σ H => tb (wG CL i ts Wout D) D σ H) := by
  refine ⟨fun pins s σ H D I hyp => ?_⟩
  have ok := I.ok
  have frm : X.A.frames = some (X.env :: X.outer) := by rw [ok.frames, hs]
  refine wpAny_Try_except ?_
  refine wpAny_mono ((hb (wG CL i ts Wout D) (X.pn ++ pins) (fun e s₁ => wpAny (model X.prog X.w) X.A (noteFrame e X.env) (fun _ s₂ => wpAny (model X.prog X.w) X.A (setFlight e none)
    (fun _ s₃ => wpAny (model X.prog X.w) X.A (handleBy e X.env [.ExceptHandler (some tx) (some n) (b₀ :: suite) pos']) (SP X pins D) X.xe s₃) X.xe s₂) X.xe s₁) (fun u s' xx => ?_) PassesOwn.looking).run [] s σ H D (I.toTry _) hyp) (fun f s1 hsp => ?_) (fun e s1 he => he)
  · obtain ⟨a, B, sI, pins', σ', H', cls, d, eu, J', nb, up, sky, na, os, ag, b, hCL, hyes, hno⟩ := xx
    subst eu
    have J : Inv X pins σ' H' sI := J'.ofTry ok
    have sky2 : Sky B (X.env :: X.outer) a (Zc cls d) X.env.locals s'.heap := by
      rw [← hs]
      exact sky
    show wpAny (model X.prog X.w) X.A (noteFrame (.ref a) X.env) _ _ _
    refine Sky.land Zc.steady frm hf sky2 fun h3 fl3 up3 => ?_
    have J3 : Inv X pins σ' H' { s' with heap := h3 } := J.landed nb fl3.1 (up.trans up3) os ag
    obtain ⟨oe3, vs3, he3, hz3, hd3⟩ := fl3.there
    have nfr : a ∉ frs (X.env :: X.outer) := fun hm => by
      obtain ⟨_, o', e', hnf⟩ := fl3.2.2.1.mem hm
      rw [he3] at e'
      cases e'
      exact hnf _ hd3
    have nL : a ≠ X.env.locals := fun z => nfr (List.mem_filterMap.mpr ⟨X.env, List.mem_cons_self, by rw [hf, z]⟩)
    have nF : a ∉ X.fs := fun hm => by
      obtain ⟨e, he, q⟩ := List.mem_filterMap.mp hm
      exact nfr (List.mem_filterMap.mpr ⟨e, List.mem_cons_of_mem _ he, q⟩)
    have nI : sI.heap.get? a = none := by
      cases q : sI.heap.get? a with
      | none => rfl
      | some o =>
        have z := nb a o q (by rw [hs]; exact nfr)
        rw [fl3.2.1] at z
        cases z
    have n0 : X.s_0.heap.get? a = none := by
      cases q : X.s_0.heap.get? a with
      | none => rfl
      | some o =>
        obtain ⟨o', z⟩ := J.base.there a o q (by rw [hex]; exact fun z => nomatch z)
        rw [nI] at z
        cases z
    have nP : ∀ p ∈ X.pn ++ pins, p.1 ≠ a := fun p hp z => by
      have y := (J.pin p hp).1
      rw [z, nI] at y
      cases y
    have S3 := J3.suite he3 hd3 na nL nF
    refine wpAny_handleBy_cons (codeAny_handlers_test ?_) (by intro q; cases q)
    have LT : Looks (model X.prog X.w) h3 (typeOf (.ref a)) cls := fun A Q E s k q => wpAny_typeOf_ref (k _ _ he3) (by rw [hz3.1]; exact q)
    refine hc a oe3 (X.pn ++ pins) [] σ' H' _ cls b _ _ S3 LT hCL fun cv h5 k5 LM => ?_
    refine LM.here ?_
    have fl5 : HandSPX.FlyingZ B (X.env :: X.outer) a (Zc cls d) h5 := fly_push fl3 k5
    have up5 : sI.heap.UpToSlots h5 := slots_push (up.trans up3) k5
    cases b with
    | true =>
      refine codeAny_handlers_suite_as ?_
      refine HandSPX.lands_againZ fl5 fun h4 fl4 up4 => ?_
      have J4 : Inv X pins σ' H' { s' with heap := h4 } := J.landed nb fl4.1 (up5.trans up4) os ag
      obtain ⟨oe4, vs4, he4, hz4, hd4⟩ := fl4.there
      have S4 := J4.suite he4 hd4 na nL nF
      refine store_ok (X := X.suite a ((a, oe4) :: (X.pn ++ pins))) (v := .ref a) S4 hN hi (.inl hln) rfl (fun s5 S5 => ?_) (.inr hln)
      refine wpAny_mono ((hsu a oe4 cls d (X.pn ++ pins) hz4 ⟨_, hd4⟩).run [] s5 _ H' _ S5 (hyes rfl a na)) (fun f s6 hsp => ?_) (fun _ _ z => False.elim z)
      have fin : ∀ {σ6 : L2.St} {H6 : Hp} {Q : Shared → Prop}, Inv (X.suite a ((a, oe4) :: (X.pn ++ pins))) [] σ6 H6 s6 → (H6 a = none → ∀ s7, Inv X pins (σ6.set i none) (upd H6 a (exk a cls d)) s7 → Q s7) →
          wpAny (model X.prog X.w) X.A (do bindName X.env n .none; unbindBehindTheSuite X.env n pos') (fun _ s7 => Q s7) X.xe s6 := fun {σ6 H6 Q} S6 hq => by
        have J6 : Inv X pins σ6 H6 s6 := S6.unsuite ok
        have pa := S6.pin (a, oe4) (List.mem_append_left _ List.mem_cons_self)
        have J6' : Inv X ((a, oe4) :: pins) σ6 H6 s6 := J6.pins_of fun p hp => by
          rcases List.mem_cons.mp hp with e | z
          · rw [e]
            exact pa
          · exact J6.pin p (List.mem_append_right _ z)
        exact gone_ok J6' hN hi hln fun s7 J7 => hq pa.2.1 s7 (track J7 n0 hd4 hz4 nP)
      cases f with
      | next =>
        obtain ⟨σ6, H6, S6, q6⟩ := hsp
        exact fin S6 fun e s7 J7 => ⟨_, _, J7, q6 e⟩
      | brk =>
        obtain ⟨σ6, H6, S6, q6⟩ := hsp
        exact fin S6 fun e s7 J7 => ⟨_, _, J7, q6 e⟩
      | cont =>
        obtain ⟨σ6, H6, S6, q6⟩ := hsp
        exact fin S6 fun e s7 J7 => ⟨_, _, J7, q6 e⟩
      | ret u =>
        obtain ⟨v6, σ6, H6, S6, r6, q6⟩ := hsp
        exact fin S6 fun e s7 J7 => ⟨_, _, _, J7, r6, q6 e⟩
    | false =>
      show wpAny _ X.A (handleBy (.ref a) X.env []) _ _ _
      refine wpAny_handleBy_nil ?_
      obtain ⟨y1, y2, y3, oe, vs, T, oT, ts', he, hz, hd, h1, hr⟩ := id fl5
      unfold PySem.passOn
      refine wpAny_bind (wpAny_field he hd h1 ?_)
      rw [if_neg (show ¬ ((Value.ref T == Value.none) = true) from by simp)]
      have fin : wpAny (model X.prog X.w) X.A (setFlight (.ref a) X.env.frame) (fun _ s4 => wpAny (model X.prog X.w) X.A (throw (.ref a) : Sem Flow) (SP X pins D) X.xe s4) X.xe { s' with heap := h5 } := by
        rw [hf]
        refine HandSPX.setFlight_upZ fl5 fun h4 hh4 up4 => wpAny_throw (tk _ _ ?_)
        exact ⟨a, B, sI, pins, σ', H', cls, d, rfl, J, nb, up5.trans up4, .inr (.inr (by rw [hs]; exact hh4)), na, os, ag, hno rfl⟩
      first
        | exact wpAny_bind (wpAny_pure (wpAny_bind fin))
        | exact wpAny_bind fin
  · cases f with
    | next =>
      obtain ⟨σ', H', J', q⟩ := hsp
      exact wpAny_execs_nil ⟨σ', H', J'.ofTry ok, q⟩
    | brk =>
      obtain ⟨σ', H', J', q⟩ := hsp
      exact ⟨σ', H', J'.ofTry ok, q⟩
    | cont =>
      obtain ⟨σ', H', J', q⟩ := hsp
      exact ⟨σ', H', J'.ofTry ok, q⟩
    | ret u =>
      obtain ⟨v, σ', H', J', r, q⟩ := hsp
      exact ⟨v, σ', H', J'.ofTry ok, r, q⟩
end
end Pb

/-! ### defs that show things: called where nothing is being shown -/
namespace Pb
open PySem PySem.Spec PyProof.Rows L2
/-- as FnOk, where no repr is under way -/
structure FnG (P : Program) (w : World) (K : PySem.W.Frag) (mg : Str → Option Value) (base : Heap) (CX : CXT) (k : Nat) (f : Addr) (fd : FuncData) (ps : List Str) (sp : Sp) : Prop where
  len : ∀ vs H Q E, sp vs H Q E → vs.length = ps.length
  run : ∀ (A : Around) (outer : List Env) (s : Shared) (H : Hp) (args : Args) (us : List Value) (vs : List V) (Q : VK) (E : XK), A.guards = some [] → Room k A → Env0 P w K mg base A outer s H → BindsTo s fd args (ps.zip us) →
    Vals vs us → sp vs H Q E → codeAny (model P w) A (.call (.ref f) args) (CR CX outer P w H s Q E) s
section
variable {P : Program} {w : World} {K : PySem.W.Frag} {mg : Str → Option Value} {base : Heap} {CX : CXT} {k : Nat} {f : Addr} {ps : List Str} {sp : Sp}
theorem FnG.of {fd : FuncData} (F : FnOk P w K mg base CX k f fd ps sp) : FnG P w K mg base CX k f fd ps sp :=
  ⟨F.len, fun A outer s H args us vs Q E _ => F.run A outer s H args us vs Q E⟩
theorem FnG.mono {fd : FuncData} {j : Nat} (F : FnG P w K mg base CX k f fd ps sp) (h : k ≤ j) : FnG P w K mg base CX j f fd ps sp :=
  ⟨F.len, fun A outer s H args us vs Q E hg hr => F.run A outer s H args us vs Q E hg (hr.mono h)⟩
variable {name qual : Str} {params : Arguments} {body : List Stmt} {scope : Scope} {dvs : List V} {kws : List (Str × V)} {fd : FuncData} {N : List Str}
theorem fnG_of (F : FunD K name qual params body scope dvs kws f fd) (S : FnScope N ps scope) (len : ∀ vs H Q E, sp vs H Q E → vs.length = ps.length)
    (hbody : ∀ (cdv : Value) (A : Around) (outer : List Env) (s : Shared) (H : Hp) (vs : List V) (Q : VK) (E : XK), A.guards = some [] → Room k (A.deeper (envOfC qual scope s.heap.objs.size f cdv)) → sp vs H Q E →
      ∃ t, PSs (cxOf CX P w K mg base N qual scope f cdv A outer s H E) body t ∧ t { nx := fun _ H' => Q .non H', rt := Q } (start N vs) H) : FnG P w K mg base CX (k + 1) f fd ps sp := by
  obtain ⟨oc, od, dV, kV, doc, pm, an, cdv, ct, osl, efd, lk, hcd, _, _⟩ := F.ex
  subst efd
  refine ⟨len, fun A outer s H args us vs Q E hg hr e0 hb r hsp => ?_⟩
  have hl := len _ _ _ _ hsp
  have k1 : K.In s.heap := e0.mod.kin.keeps fun b o e => (e0.bs b o e).1
  have k2 : s.heap.NoLimit := e0.mod.nolimit.keeps fun b o e => (e0.bs b o e).1
  have k3 : ∀ y ∈ ps.zip us, scope.names.lookup y.1 = some .local ∨ (scope.names.lookup y.1 = some .cell ∧ ((cellsFrom (s.heap.objs.size + 1) scope.names []).lookup y.1).isSome = true) := by
    rintro ⟨y, v⟩ hy
    rcases S.par y (List.of_mem_zip hy).1 with z | z
    · exact .inl z
    · exact .inr ⟨z, PySem.W.cellsFrom_some _ _ _ (.inl z)⟩
  refine codeAny_call_function hr.depth (k1 _ _ lk) rfl S.co S.gen rfl (PySem.W.codeRec_of k1 hcd) (hb _ _ _ _ ?_)
  refine wpAny_newFunctionEnv_cells S.kind k3 fun env he s1 x => ?_
  subst he
  refine ⟨k2.keeps x.toInCall.keep, codeAny_func ?_⟩
  obtain ⟨t, ht, hq⟩ := hbody cdv A outer s H vs Q E hg (hr.deeper _) hsp
  have I : Inv (cxOf CX P w K mg base N qual scope f cdv A outer s H E) [] (start N vs) H s1 := inv_start S hr.hd e0 hl r x
  refine wpAny_mono (ht.run [] s1 (start N vs) H _ I hq) (fun fl s' hs => ?_) fun e s' hs => hs
  cases fl with
  | ret u =>
    obtain ⟨v, σ', H', J, rv, q⟩ := hs
    exact ⟨v, H', J.os, J.bare, J.base, J.hok, rv, q⟩
  | next =>
    obtain ⟨σ', H', J, q⟩ := hs
    exact ⟨V.non, H', J.os, J.bare, J.base, J.hok, rfl, q⟩
  | brk =>
    obtain ⟨_, _, _, q⟩ := hs
    exact q.elim
  | cont =>
    obtain ⟨_, _, _, q⟩ := hs
    exact q.elim
end
section
variable {X : Cx} {CX : CXT} {k : Nat} {f : Addr} {fd : FuncData} {ps : List Str} {sp : Sp} {ds : List Value} {dvs : List V} {E : XK} {x : Str} {p pos : Pos} {e : Expr} {es : List Expr} {t : TA}
/-- f(e, ..) of such a def -/
theorem pe_callG (F : FnG X.prog X.w X.K X.mg X.base CX k f fd ps sp) (gd : X.A.guards = some []) (hr : Room k X.A) (hg : Gl X x) (hm : X.mg x = some (.ref f)) (hk : PySem.W.keepIn X.K (.ref f) = true) (hb : Binds X.K fd ps ds) (hd : Vals dvs ds) (hx : Passes CX X E)
    (ha : PA X (e :: es) t) (hdb : (x == ("__debug__" : Str)) = false := by decide) (he : starEach (e :: es) X.env = (false, eval e X.env) :: starEach es X.env := by rfl) (hpl : (backTo pos (starEach es X.env)).any (·.1) = false := by rfl) :
    PE X (.Call (.Name x p) (e :: es) [] pos) (tCall sp dvs E t) := by
  refine ⟨fun pins s σ H Q I hyp => ?_⟩
  refine wpAny_Call_Name_kw (ld_glob I hg hm ?_ hdb)
  refine PySem.W.callWith_K (h₀ := X.base) I.ok.mod.kin hk (thn (ha.run pos pins s σ H _ I hyp) fun us s1 z => ?_) he hpl
  obtain ⟨vs, H1, I1, r, q⟩ := z
  refine ⟨I1.kIn, ?_⟩
  have r2 : Vals (vs ++ dvs) (us ++ ds) := r.append hd
  have hl : (us ++ ds).length = ps.length := by
    rw [← r2.length]
    exact F.len _ _ _ _ q
  refine wpAny_call (codeAny_mono (F.run X.A X.stack s1 H1 ⟨us, []⟩ (us ++ ds) (vs ++ dvs) Q E gd hr I1.env0 (hb s1 us I1.kIn hl) r2 q) fun r s' hq => ?_)
  cases r with
  | error e => exact hx pins σ H1 s1 e s' I1 hq
  | ok fl =>
    cases fl with
    | ret u => exact I1.after hq
    | next => exact False.elim hq
    | brk => exact False.elim hq
    | cont => exact False.elim hq
/-- repr(x) of data at any depth -/
def rRepr (K : PySem.W.Frag) : List V → Hp → VK → Prop := fun xs H Q => ∃ (a : Addr) (d : PyData), xs = [.ref a] ∧ Dp K H (.ref a) d ∧ d.showable = true ∧ d.hasDict = false ∧ d.depth ≤ 60 ∧ d.shown.length ≤ sizeLine ∧ Q (.str d.shown) H
theorem call_repr (gd : X.A.guards = some []) (hr : Room k X.A) : CallR X (.builtin "repr") (rRepr X.K) := by
  intro pins s σ H xs us Q I r hyp
  obtain ⟨a, d, ex, hd, h1, h2, h3, h4, q⟩ := hyp
  subst ex
  cases r with
  | cons rx rn =>
    cases rn
    obtain ⟨as, rd⟩ := Dp.reads I d _ _ hd rx
    cases rx
    have hu := hr.un
    refine repr_of_reads' rd h1 (PyData.noDict_hsm h2) gd (by omega) (fun _ _ z => z) (fun h' u tk kp => ?_) h4
    exact ⟨.str d.shown, H, I.kept (t' := tk) kp, ⟨u, rfl⟩, q⟩
end
end Pb

/-! ### the end: a law whose def shows things -/
namespace Pb
open PySem PySem.Spec PyProof.Rows L2
theorem lawG {P : Program} {w : World} {K : PySem.W.Frag} {mg mb : Str → Option Value} {CX : CXT} {k : Nat} {fa a : Addr} {fd : FuncData} {x : Str} {sp : Sp} {s₁ : Shared} {vs : List Value} {ns : List Int} (KX : K.In s₁.heap) (hns : s₁.heap.Ns mainGlobals mg)
    (hb : s₁.heap.Ns builtinsNs mb) (hbb : ∀ x : Str, x ≠ "__name__" → mb x = bootBuiltins x) (hlim : s₁.heap.NoLimit) (hg : s₁.gens = #[]) (ha : s₁.heap.get? a = some { cls := .type "list", data := .seq vs.toArray }) (hi : IntsAre vs ns) (hl : ns.length ≤ sizeLine)
    (hr : Room k callerA) (F : ∀ base : Heap, K.In base → base.Ns mainGlobals mg → FnG P w K mg base CX k fa fd [x] sp) (hbind : ∀ (s : Shared) (u : Value), BindsTo s fd ⟨[u], []⟩ [(x, u)])
    (hsp : ∀ H : Hp, Only H → SqL K H a (ns.map V.int) → sp [.ref a] H (fun v _ => v = .bl true) fun _ _ _ => False) (hCX : ∀ H e s', CX [] H s₁ (fun _ _ _ => False) e s' → False) :
    codeAny (model P w) callerA (.call (.ref fa) ⟨[.ref a], []⟩) (fun r s' => r = .ok (.ret (.bool true)) ∧ OldK s₁.heap s'.heap ∧ s'.os = s₁.os ∧ AllBare s'.gens) s₁ := by
  have vi := vals_ints hi
  have li := hi.length
  have core : ∀ H : Hp, Only H → SqL K H a (ns.map V.int) → HOk P w H s₁.heap → (∀ b, H b ≠ none → b = a) → (H a ≠ none → K.lookup a = none) →
      codeAny (model P w) callerA (.call (.ref fa) ⟨[.ref a], []⟩) (fun r s' => r = .ok (.ret (.bool true)) ∧ OldK s₁.heap s'.heap ∧ s'.os = s₁.os ∧ AllBare s'.gens) s₁ := fun H hO hS hok hA hK => by
    have free : ∀ {b : Addr}, b ≠ a → H b = none := fun {b} nb => by
      cases q : H b with
      | none => rfl
      | some u => exact absurd (hA b (by rw [q]; simp)) nb
    have noA : ∀ {b : Addr} {o : Obj} {es : Array DictEntry} {ep : Nat}, s₁.heap.get? b = some o → o.data = .dict es ep → H b = none := fun {b o es ep} e d => free fun z => by
      rw [z, ha] at e
      cases e
      cases d
    have nsK : ∀ {b : Addr} {m : Str → Option Value}, s₁.heap.Ns b m → (hidT s₁.heap H).Ns b m := fun {b m} z => by
      obtain ⟨o, es, ep, e, d, r⟩ := z
      exact ⟨o, es, ep, hidT_get e (noA e d), d, r⟩
    have kb : K.In (hidT s₁.heap H) := fun b o e => hidT_get (KX b o e) (by
      cases q : H b with
      | none => rfl
      | some u =>
        have z := hA b (by rw [q]; simp)
        rw [z] at e q
        rw [hK (by rw [q]; simp)] at e
        cases e)
    have mo : Mod K mg (hidT s₁.heap H) := by
      obtain ⟨mc, l1, l2⟩ := hlim
      exact ⟨kb, nsK hns, ⟨mb, nsK hb, hbb⟩, ⟨mc, nsK l1, l2⟩⟩
    have e0 : Env0 P w K mg (hidT s₁.heap H) callerA [] s₁ H :=
      ⟨rfl, mo, fun b o e => of_hidT e, Nat.le_of_eq (hidT_size _ _), trivial, (fun b z => nomatch (show b ∈ ([] : List Addr) from z)), hok, .of_eq hg⟩
    refine codeAny_mono ((F _ kb (nsK hns)).run callerA [] s₁ H ⟨[.ref a], []⟩ [.ref a] [.ref a] _ _ rfl hr e0 (hbind s₁ (.ref a)) (.cons rfl .nil) (hsp H hO hS)) fun r s' z => ?_
    cases r with
    | error e => exact (hCX H e s' z).elim
    | ok fl =>
      cases fl with
      | next => exact z.elim
      | brk => exact z.elim
      | cont => exact z.elim
      | ret u =>
        obtain ⟨v, H', os, bare, un, hok', rv, q⟩ := z
        cases (show v = .bl true from q)
        cases (show u = Value.bool true from rv)
        refine ⟨rfl, OldK.of_keep fun b o e => ?_, os, bare⟩
        rcases hO b with y | ⟨ob, xs, y⟩
        · exact un.keep b o e y (fun z => nomatch (show b ∈ ([] : List Addr) from z)) (fun z => nomatch z)
        · obtain ⟨e1, _⟩ := hok b _ y
          obtain ⟨e2, _⟩ := hok' b _ (un.frzs b ob _ y)
          rw [e] at e1
          cases e1
          exact e2
  cases hk : K.lookup a with
  | some o =>
    have e := KX a o hk
    rw [ha] at e
    cases e
    refine core (fun _ => none) (fun _ => .inl rfl) (.inr ⟨_, vs.toArray, _, hk, rfl, rfl, rfl, ?_, by simpa using vi⟩) (fun b u z => by cases z) (fun b z => absurd rfl z) fun z => absurd rfl z
    rw [List.size_toArray, li]
    exact hl
  | none =>
    have y : upd (fun _ => none) a (.frz { cls := .type "list", data := .seq vs.toArray } (.lst (ns.map V.int))) a = some (.frz { cls := .type "list", data := .seq vs.toArray } (.lst (ns.map V.int))) := upd_same
    refine core (upd (fun _ => none) a (.frz { cls := .type "list", data := .seq vs.toArray } (.lst (ns.map V.int)))) (fun b => ?_) (.inl (.inr ⟨_, y⟩)) (fun b u z => ?_) (fun b z => ?_) fun _ => hk
    · by_cases e : b = a
      · rw [e]
        exact .inr ⟨_, _, y⟩
      · exact .inl (upd_ne e)
    · by_cases e : b = a
      · rw [e, y] at z
        cases z
        rw [e]
        exact ⟨ha, by rw [List.length_map]; exact hl, vs, _, vi, ha⟩
      · rw [upd_ne e] at z
        cases z
    · by_cases e : b = a
      · exact e
      · exact absurd (upd_ne e) z
theorem walkG {l : PySem.W.OpenLaw} {n k : Nat} {q : Program} {loose : List Str} {XP : (Str → Option Value) → Heap → Prop} {YP : World → Heap → Prop} {d : DefRec} {CX : CXT} {x : Str} (hn : l.most = some n) (hn2 : n ≤ sizeLine) (hdf : d.params.defaults = []) (hr : Room k callerA)
    (F : ∀ (w : World) (mg : Str → Option Value) (fa : Addr) (h : Heap), YP w h → h.Ns mainGlobals mg → mg d.name = some (.ref fa) →
      ∃ (K : PySem.W.Frag) (fd : FuncData) (sp : Sp), K.In h ∧ (∀ (s : Shared) (u : Value), BindsTo s fd ⟨[u], []⟩ [(x, u)]) ∧ (∀ (H : Hp) (a : Addr) (ns : List Int), ns.length ≤ n → Only H → SqL K H a (ns.map V.int) → sp [.ref a] H (fun v _ => v = .bl true) fun _ _ _ => False) ∧
        ∀ base : Heap, K.In base → base.Ns mainGlobals mg → FnG l.prog w K mg base CX k fa fd [x] sp)
    (hCX : ∀ (H : Hp) (s : Shared) (e : Value) (s' : Shared), CX [] H s (fun _ _ _ => False) e s' → False) : PySem.W.WalkO q loose XP YP l.row.toRowW d [] (fun f vs => PySem.call f vs) := by
  refine Att.attach_call hn hdf fun w s₀ s₁ mg mb fa o pm cd doc a vs ns G Y ho hd hcd hmg hobj hints hlen hg => ?_
  obtain ⟨K, fd, sp, KX, bb, hs, hF⟩ := F w mg fa _ Y G.T.g hmg
  exact lawG KX G.T.g G.T.b G.T.builtins G.T.nolimit hg hobj hints (Nat.le_trans hlen hn2) hr hF bb (fun H hO hS => hs H a ns hlen hO hS) fun H e s' => hCX H s₁ e s'
/-! ### the head's facts: any checks of the written part, and the defs -/
def obsX (cks : List (PySem.W.Frag → Bool)) (fn : List He.DefD) (K : PySem.W.Frag) : He.AlD := ((cks.all fun c => c K) && fn.all fun d => d.ok K, fn.map fun d => He.fnW K d.at_)
def SaysX (cks : List (PySem.W.Frag → Bool)) (fn : List He.DefD) (K : PySem.W.Frag) : Prop := obsX cks fn K = He.valD fn
def obsXG (n : Nat) (cks : List (PySem.W.Frag → Bool)) (fn : List He.DefD) (g : Addr → Option Obj) : He.AlD := obsX cks fn (He.frG g (He.asD g n))
def hookX (n : Nat) (cks : List (PySem.W.Frag → Bool)) (fn : List He.DefD) : PySem.W.Hook where
  α := He.AlD
  obs := fun s => obsXG n cks fn s.heap.get?
  val := fun _ => He.valD fn
  says := fun _ h => ∃ K : PySem.W.Frag, K.In h ∧ SaysX cks fn K
  of := fun _ _ e => ⟨_, He.frG_in, e⟩
  keeps := fun _ _ _ ⟨K, hK, c⟩ k => ⟨K, PySem.W.Frag.In.keeps hK k, c⟩
theorem obsXG_eq {n : Nat} {cks : List (PySem.W.Frag → Bool)} {fn : List He.DefD} {g : Addr → Option Obj} {s : Shared} (h : ∀ a, g a = s.heap.get? a) : obsXG n cks fn g = (hookX n cks fn).obs s := by
  have e : g = s.heap.get? := funext h
  rw [e]
  rfl
section
variable {cks : List (PySem.W.Frag → Bool)} {fn : List He.DefD} {K : PySem.W.Frag}
theorem SaysX.all (c : SaysX cks fn K) : (cks.all fun c => c K) = true := (He.ba (show ((cks.all fun c => c K) && fn.all fun d => d.ok K) = true from congrArg (fun z : He.AlD => z.1) c)).1
theorem SaysX.fact (c : SaysX cks fn K) (i : Nat) {f : PySem.W.Frag → Bool} (h : cks[i]? = some f := by rfl) : f K = true := List.all_eq_true.mp c.all f (List.mem_of_getElem? h)
theorem SaysX.def_ (c : SaysX cks fn K) (i : Nat) {d : He.DefD} (h : fn[i]? = some d := by rfl) : ∃ fd, FunD K d.name d.qual d.params d.body d.scope (d.dvs K) (d.kws K) (He.fAd K d.at_) fd := by
  have c2 := (He.ba (show ((cks.all fun c => c K) && fn.all fun d => d.ok K) = true from congrArg (fun z : He.AlD => z.1) c)).2
  have e : fn.map (fun d => He.fnW K d.at_) = fn.map He.DefD.val := congrArg (fun z : He.AlD => z.2) c
  have e2 : (fn.map fun d => He.fnW K d.at_)[i]? = (fn.map He.DefD.val)[i]? := by rw [e]
  rw [List.getElem?_map, List.getElem?_map, h] at e2
  exact He.DefD.funD (Option.some.inj e2) (List.all_eq_true.mp c2 d (List.mem_of_getElem? h))
end
def gloB (x : Str) (K : PySem.W.Frag) : Bool := (He.Fa.glo x).ok K
def freeB (x : Str) (K : PySem.W.Frag) : Bool := (He.Fa.free x).ok K
end Pb

/-! ### data that can be shown: of small numbers and texts, few things -/
namespace Pb
open PySem PySem.Spec PyProof.Rows L2
structure Sm (n k : Nat) (d : PyData) : Prop where
  sh : d.showable = true
  ls : d.leavesShort 13 = true
  nd : d.hasDict = false
  dp : d.depth ≤ k
  bk : d.bulk ≤ n
structure SmA (n k : Nat) (ds : List PyData) : Prop where
  sh : PyData.showableAll ds = true
  ls : PyData.leavesShortAll 13 ds = true
  nd : PyData.hasDictAll ds = false
  dp : PyData.depthAll ds ≤ k
  bk : PyData.bulkAll ds ≤ n
theorem Sm.fits {n k : Nat} {d : PyData} (h : Sm n k d) (hn : n ≤ 1048576) : d.shown.length ≤ sizeLine := PyData.shown_fits_bulk (B := 13) (by decide) (by decide) h.ls (Nat.le_trans h.bk hn)
theorem Sm.int {i : Int} (h : i.natAbs < 10 ^ 12) : Sm 0 0 (.int i) where
  sh := decide_eq_true (by
    by_cases e : i.natAbs = 0
    · rw [e]
      decide
    · have z : i.natAbs < 2 ^ 1920 := Nat.lt_trans h (by decide)
      exact (Nat.log2_lt e).mpr z)
  ls := decide_eq_true (PyData.shown_int_le h)
  nd := rfl
  dp := Nat.le_refl _
  bk := Nat.le_refl _
theorem SmA.nil : SmA 0 0 [] := ⟨rfl, rfl, rfl, Nat.le_refl _, Nat.le_refl _⟩
theorem SmA.cons {n m k j : Nat} {d : PyData} {ds : List PyData} (h : Sm n k d) (t : SmA m j ds) : SmA (n + 1 + m) (max k j) (d :: ds) where
  sh := by
    show (d.showable && PyData.showableAll ds) = true
    rw [h.sh, t.sh]
    rfl
  ls := by
    show (d.leavesShort 13 && PyData.leavesShortAll 13 ds) = true
    rw [h.ls, t.ls]
    rfl
  nd := by
    show (d.hasDict || PyData.hasDictAll ds) = false
    rw [h.nd, t.nd]
    rfl
  dp := by
    show max d.depth (PyData.depthAll ds) ≤ max k j
    have := h.dp
    have := t.dp
    omega
  bk := by
    show d.bulk + 1 + PyData.bulkAll ds ≤ n + 1 + m
    have := h.bk
    have := t.bk
    omega
theorem Sm.tup {n k : Nat} {ds : List PyData} (h : SmA n k ds) : Sm n (k + 1) (.tuple ds) := ⟨h.sh, h.ls, h.nd, Nat.succ_le_succ h.dp, h.bk⟩
theorem Sm.lst {n k : Nat} {ds : List PyData} (h : SmA n k ds) : Sm n (k + 1) (.list ds) := ⟨h.sh, h.ls, h.nd, Nat.succ_le_succ h.dp, h.bk⟩
theorem Sm.str {x : Str} {n : Nat} (h : (x.cps.toList.all fun c => decide (c < 16 ^ 8)) = true) (hn : x.cps.size ≤ n) : Sm n 0 (.str x) := ⟨rfl, h, rfl, Nat.le_refl _, hn⟩
end Pb

namespace Pb
open PySem PySem.Spec PyProof.Rows L2
/-- for i, x in enumerate(xs), by a word between the turns -/
theorem for_enumL {K : PySem.W.Frag} {a : Addr} {xs : List V} {g : TG} {tb : TS} {D : Ends} {σ : L2.St} {H : Hp} (Pv : Nat → L2.St → Hp → Prop) (start : Pv 0 σ H) (stays : ∀ i σ H, i ≤ xs.length → Pv i σ H → SqL K H a xs)
    (turn : ∀ i x T σ H, xs[i]? = some x → H T = none → Pv i σ H → g (.ref T) σ (upd H T (.tup [.int (i : Nat), x])) fun σ2 H2 => tb { D with nx := Pv (i + 1), ct := Pv (i + 1), bk := D.nx } σ2 H2) (behind : ∀ σ H, Pv xs.length σ H → D.nx σ H) :
    ∃ W : Nat → Nat → L2.St → Hp → Prop, (∃ m, W 0 m σ H) ∧ ∀ i m σ H, W i m σ H → ((Ite K a).stop i H ∧ D.nx σ H) ∨ ((Ite K a).go i H ∧ ∃ N : L2.St → Hp → Prop, (∀ σ' H', N σ' H' → ∃ m', m' < m ∧ W (i + 1) m' σ' H') ∧
      ∀ x H', (Ite K a).yld i H x H' → g x σ H' fun σ2 H2 => tb { D with nx := N, ct := N, bk := D.nx } σ2 H2) := by
  refine ⟨fun i m σ H => m = xs.length - i ∧ i ≤ xs.length ∧ Pv i σ H, ⟨xs.length, by simp, Nat.zero_le _, start⟩, fun i m σ H hw => ?_⟩
  obtain ⟨em, hi, p⟩ := hw
  have hq := stays i σ H hi p
  by_cases lt : i < xs.length
  · refine .inr ⟨⟨xs, xs[i], hq, by simp [lt]⟩, Pv (i + 1), fun σ' H' p' => ⟨xs.length - (i + 1), by omega, rfl, lt, p'⟩, fun v H' y => ?_⟩
    obtain ⟨T, x, ev, nT, eH, hx⟩ := y
    subst ev eH
    exact turn i x T σ H (hx xs hq) nT p
  · have e : i = xs.length := by omega
    subst e
    exact .inl ⟨⟨xs, hq, Nat.le_refl _⟩, behind σ H p⟩
end Pb

namespace Pb
open PySem PySem.Spec PyProof.Rows L2
theorem ExI.same {H H' : Hp} {a D : Addr} {fs : Option (List (Str × V))} (h : ExI H a D fs) (s : Same H H') : ExI H' a D fs := by
  cases fs with
  | none =>
    rcases h with h | h
    · exact .inl (s _ _ h)
    · exact .inr (s _ _ h)
  | some l =>
    obtain ⟨dx, ⟨x, y⟩ | ⟨x, y⟩⟩ := h
    · exact ⟨dx, .inl ⟨s _ _ x, s _ _ y⟩⟩
    · exact ⟨dx, .inr ⟨s _ _ x, s _ _ y⟩⟩
theorem Same.seqT {K : PySem.W.Frag} {H H' : Hp} {a : Addr} {xs : List V} (e : Same H H') (h : SqT K H a xs) : SqT K H' a xs := by
  rcases h with (h | ⟨o, h⟩) | h
  · exact .inl (.inl (e _ _ h))
  · exact .inl (.inr ⟨o, e _ _ h⟩)
  · exact .inr h
mutual
theorem Dp.same {K : PySem.W.Frag} {H H' : Hp} (s : Same H H') : ∀ {v : V} {d : PyData}, Dp K H v d → Dp K H' v d
  | _, _, .non => .non
  | _, _, .bl b => .bl b
  | _, _, .int i => .int i
  | _, _, .str x => .str x
  | _, _, .lst h t => .lst (s.seq h) (DpAll.same s t)
  | _, _, .tup h t => .tup (Same.seqT s h) (DpAll.same s t)
theorem DpAll.same {K : PySem.W.Frag} {H H' : Hp} (s : Same H H') : ∀ {v : List V} {d : List PyData}, DpAll K H v d → DpAll K H' v d
  | _, _, .nil => .nil
  | _, _, .cons a b => .cons (Dp.same s a) (DpAll.same s b)
end
theorem DpAll.app {K : PySem.W.Frag} {H : Hp} : ∀ {v u : List V} {d e : List PyData}, DpAll K H v d → DpAll K H u e → DpAll K H (v ++ u) (d ++ e)
  | _, _, _, _, .nil, h => h
  | _, _, _, _, .cons a b, h => .cons a (DpAll.app b h)
theorem DpAll.len {K : PySem.W.Frag} {H : Hp} : ∀ {v : List V} {d : List PyData}, DpAll K H v d → v.length = d.length
  | _, _, .nil => rfl
  | _, _, .cons _ b => congrArg Nat.succ (DpAll.len b)
theorem nxo {H : Hp} {a : Addr} {o : HO} (na : H a = none) : Same H (upd H a o) ∧ (upd H a o) a = some o := ⟨same_upd na, upd_same⟩
theorem lk1 (n : Str) (v : V) : ([(n, v)] : List (Str × V)).lookup n = some v := by simp [List.lookup]
/-- what was tracked stays, but what is told at d -/
def But (d : Addr) (H H' : Hp) : Prop := ∀ b, b ≠ d → H' b = H b
end Pb

namespace Pb
open PySem PySem.Spec PyProof.Rows L2 TL
/-- a text of plain signs, not too long -/
structure Pl (z : Str) : Prop where
  asc : ∀ c ∈ z.cps.toList, c < 128
  sz : z.cps.size ≤ 20000
theorem Pl.small {z : Str} (h : Pl z) : z.cps.size < sizeLine := Nat.lt_of_le_of_lt h.sz (by decide)
theorem lay_str {z : Str} (h : ∀ c ∈ z.cps.toList, c < 128) : PyData.canLay0 (.str z) = true := by
  show (z.cps.all (· < 0x110000)) = true
  rw [← Array.all_toList, List.all_eq_true]
  intro c hc
  exact decide_eq_true (Nat.lt_trans (h c hc) (by decide))
theorem lay_all : ∀ (ds : List PyData), (∀ d ∈ ds, d.canLay0 = true) → PyData.canLayAll0 ds = true
  | [], _ => rfl
  | d :: ds, h => by
    show (d.canLay0 && PyData.canLayAll0 ds) = true
    rw [h d List.mem_cons_self, lay_all ds fun e he => h e (List.mem_cons_of_mem _ he)]
    rfl
theorem depth_all {k : Nat} : ∀ (ds : List PyData), (∀ d ∈ ds, d.depth ≤ k) → PyData.depthAll ds ≤ k
  | [], _ => Nat.zero_le _
  | d :: ds, h => by
    show max d.depth (PyData.depthAll ds) ≤ k
    exact Nat.max_le.mpr ⟨h d List.mem_cons_self, depth_all ds fun e he => h e (List.mem_cons_of_mem _ he)⟩
/-- a list of plain texts, as data -/
theorem shp_strs {ys : List Str} (h : ∀ y ∈ ys, ∀ c ∈ y.cps.toList, c < 128) : SeqAt.shaped (.list (ys.map .str)) = true := by
  have a : PyData.canLay0 (.list (ys.map .str)) = true := lay_all _ fun d hd => by
    obtain ⟨y, hy, e⟩ := List.mem_map.mp hd
    rw [← e]
    exact lay_str (h y hy)
  have b : (PyData.list (ys.map .str)).depth ≤ 64 := by
    show PyData.depthAll (ys.map .str) + 1 ≤ 64
    have : PyData.depthAll (ys.map .str) ≤ 0 := depth_all _ fun d hd => by
      obtain ⟨y, hy, e⟩ := List.mem_map.mp hd
      rw [← e]
      exact Nat.le_refl _
    omega
  unfold SeqAt.shaped
  rw [a, decide_eq_true b]
  rfl
theorem dp_strs {K : PySem.W.Frag} {H : Hp} {p : Addr} (ys : List Str) (e : H p = some (.lst (ys.map V.str))) : Dp K H (.ref p) (.list (ys.map .str)) := by
  refine .lst (.of e) ?_
  clear e
  induction ys with
  | nil => exact .nil
  | cons y r ih => exact .cons (.str y) ih
theorem set_get {σ : L2.St} {i : Nat} {x : Option V} (h : i < σ.length) : (σ.set i x)[i]? = some x := List.getElem?_set_self h
theorem arr_get {z : Str} {i c : Nat} (h : z.cps[i]? = some c) : z.cps.toList[i]? = some c := by rw [Array.getElem?_toList]; exact h
/-! ### things of any kind -/
inductive Kd (H : Hp) : V → String → Prop
  | non : Kd H .non "NoneType"
  | bl (b : Bool) : Kd H (.bl b) "bool"
  | int (i : Int) : Kd H (.int i) "int"
  | str (x : Str) : Kd H (.str x) "str"
  | lst {a : Addr} {xs : List V} (e : H a = some (.lst xs)) : Kd H (.ref a) "list"
  | tup {a : Addr} {xs : List V} (e : H a = some (.tup xs)) : Kd H (.ref a) "tuple"
  | dic {a : Addr} {kvs : List (Key × V)} (e : H a = some (.dK kvs)) : Kd H (.ref a) "dict"
theorem Kd.ty {K : PySem.W.Frag} {H : Hp} {x : V} {T : String} (h : Kd H x T) : TyX K H x (.type T) := by
  cases h with
  | non => exact .base .non
  | bl b => exact .base (.bl b)
  | int i => exact .base (.int i)
  | str x => exact .base (.str x)
  | lst e => exact .base (.lst e)
  | tup e => exact .base (.tup e)
  | dic e => exact .base (.dK e)
theorem Kd.same {H H' : Hp} {x : V} {T : String} (h : Kd H x T) (s : Same H H') : Kd H' x T := by
  cases h with
  | non => exact .non
  | bl b => exact .bl b
  | int i => exact .int i
  | str x => exact .str x
  | lst e => exact .lst (s _ _ e)
  | tup e => exact .tup (s _ _ e)
  | dic e => exact .dic (s _ _ e)
abbrev FnP (K : PySem.W.Frag) (x : Str) (st : Stmt) (f : Addr) (fd : FuncData) : Prop := FunD K x x (defArgs st) (defBody st) (defScope st) [] [] f fd
abbrev FnD (K : PySem.W.Frag) (x : Str) (st : Stmt) (dvs : List V) (f : Addr) (fd : FuncData) : Prop := FunD K x x (defArgs st) (defBody st) (defScope st) dvs [] f fd
/-! ### what is drawn -/
def drV (c : Addr) (n l u : Int) : List (Key × V) := [(.inr "cells", .ref c), (.inr "at", .int n), (.inr "left", .int l), (.inr "used", .int u)]
/-- a draw at d, of which at most n were drawn -/
def Dr (H : Hp) (d : Addr) (n : Nat) : Prop := ∃ (c : Addr) (a l u : Int) (cells : List Int), H d = some (.dK (drV c a l u)) ∧ H c = some (.lst (cells.map V.int)) ∧
  cells ≠ [] ∧ cells.length ≤ 100 ∧ 0 ≤ a ∧ a ≤ n ∧ 0 ≤ u ∧ u ≤ n
def spBegin (K : PySem.W.Frag) : Sp := fun vs H Q _ => ∃ (a : Addr) (ns : List Int), vs = [.ref a] ∧ SqL K H a (ns.map V.int) ∧ ns.length ≤ 63 ∧
  ∀ H' d c, H c = none → H d = none → Dr H' d 0 → (∀ b, b ≠ c → b ≠ d → H b ≠ none → H' b = H b) → Q (.ref d) H'
def spMixed : Sp := fun vs H Q _ => ∃ c k : Int, vs = [.int c, .int k] ∧ 0 ≤ k ∧ k ≤ 2 ^ 40 ∧ ∀ v : Int, Q (.int v) H
def spNext : Sp := fun vs H Q _ => ∃ (d : Addr) (m : Int) (n : Nat), vs = [.ref d, .int m] ∧ Dr H d n ∧ 0 < m ∧ m < 1073741824 ∧ n < 2 ^ 40 ∧
  ∀ (v : Int) (H' : Hp), 0 ≤ v → v < m → Dr H' d (n + 1) → But d H H' → Q (.int v) H'
theorem dr_cells (c : Addr) (a l u : Int) : valV (drV c a l u) (.inr "cells") = some (.ref c) := by rfl
theorem dr_at (c : Addr) (a l u : Int) : valV (drV c a l u) (.inr "at") = some (.int a) := by rfl
theorem dr_left (c : Addr) (a l u : Int) : valV (drV c a l u) (.inr "left") = some (.int l) := by rfl
theorem dr_used (c : Addr) (a l u : Int) : valV (drV c a l u) (.inr "used") = some (.int u) := by rfl
theorem dp_at (c : Addr) (a l u z : Int) : putK (drV c a l u) (.inr "at") (.int z) = drV c z l u := by rfl
theorem dp_left (c : Addr) (a l u z : Int) : putK (drV c a l u) (.inr "left") (.int z) = drV c a z u := by rfl
theorem dp_used (c : Addr) (a l u z : Int) : putK (drV c a l u) (.inr "used") (.int z) = drV c a l z := by rfl
theorem dr_len (c : Addr) (a l u : Int) : (drV c a l u).length < sizeLine := by
  show 4 < sizeLine
  decide

theorem Dr.same {H H' : Hp} {d : Addr} {n : Nat} (h : Dr H d n) (s : Same H H') : Dr H' d n := by
  obtain ⟨c, a, l, u, cs, h1, h2, r⟩ := h
  exact ⟨c, a, l, u, cs, s _ _ h1, s _ _ h2, r⟩
theorem Dr.at {H : Hp} {d : Addr} {n : Nat} (h : Dr H d n) : ∃ kvs, H d = some (.dK kvs) := by
  obtain ⟨c, a, l, u, cs, h1, h2, r⟩ := h
  exact ⟨_, h1⟩
/-- a list that isn't the draw stays where one draws -/
theorem But.lst {H H' : Hp} {d p : Addr} {n : Nat} {xs : List V} (b : But d H H') (h : Dr H d n) (e : H p = some (.lst xs)) : H' p = some (.lst xs) := by
  obtain ⟨kvs, ed⟩ := h.at
  rw [b p (ne_of e ed (by intro z; cases z))]
  exact e
/-- all but the draw stays -/
def Kp (d : Addr) (H H' : Hp) : Prop := ∀ b o, b ≠ d → H b = some o → H' b = some o
theorem Kp.refl {d : Addr} (H : Hp) : Kp d H H := fun _ _ _ e => e
theorem Kp.trans {d : Addr} {H H' H'' : Hp} (a : Kp d H H') (b : Kp d H' H'') : Kp d H H'' := fun c o n e => b c o n (a c o n e)
theorem But.kp {d : Addr} {H H' : Hp} (b : But d H H') : Kp d H H' := fun c o n e => by
  rw [b c n]
  exact e
theorem Same.kp {d : Addr} {H H' : Hp} (s : Same H H') : Kp d H H' := fun c o _ e => s c o e
theorem Dr.mono {H : Hp} {d : Addr} {n m : Nat} (h : Dr H d n) (l : n ≤ m) : Dr H d m := by
  obtain ⟨c, a, x, u, cs, h1, h2, h3, h4, h5, h6, h7, h8⟩ := h
  exact ⟨c, a, x, u, cs, h1, h2, h3, h4, h5, by omega, h7, by omega⟩
theorem Kp.lst {H H' : Hp} {d p : Addr} {n : Nat} {xs : List V} (b : Kp d H H') (h : Dr H d n) (e : H p = some (.lst xs)) : H' p = some (.lst xs) := by
  obtain ⟨kvs, ed⟩ := h.at
  exact b p _ (ne_of e ed (by intro z; cases z)) e
theorem Kp.tup {H H' : Hp} {d p : Addr} {n : Nat} {xs : List V} (b : Kp d H H') (h : Dr H d n) (e : H p = some (.tup xs)) : H' p = some (.tup xs) := by
  obtain ⟨kvs, ed⟩ := h.at
  exact b p _ (ne_of e ed (by intro z; cases z)) e
/-- the sign of z at a drawn place -/
theorem at_sign {z : Str} {v : Int} (h0 : 0 ≤ v) (h1 : v < z.length) : ∃ c, c ∈ z.cps.toList ∧ atI z.cps.toList v = some c := by
  obtain ⟨j, rfl⟩ : ∃ j : Nat, v = (j : Int) := ⟨_, (Int.toNat_of_nonneg h0).symm⟩
  have hl : z.cps.toList.length = z.length := Array.length_toList
  have hj : j < z.cps.toList.length := by omega
  exact ⟨z.cps.toList[j], List.getElem_mem hj, atI_nat (List.getElem?_eq_getElem hj)⟩
/-- what stands in a list at a drawn place -/
theorem at_list {xs : List V} {v : Int} (h0 : 0 ≤ v) (h1 : v < xs.length) : ∃ x, x ∈ xs ∧ atI xs v = some x := by
  obtain ⟨j, rfl⟩ : ∃ j : Nat, v = (j : Int) := ⟨_, (Int.toNat_of_nonneg h0).symm⟩
  have hj : j < xs.length := by omega
  exact ⟨xs[j], List.getElem_mem hj, atI_nat (List.getElem?_eq_getElem hj)⟩
theorem none_of {H H' : Hp} {a : Addr} (s : Same H H') (h : H' a = none) : H a = none := by
  cases e : H a with
  | none => rfl
  | some o =>
    rw [s _ _ e] at h
    cases h
theorem ne_none {H : Hp} {a b : Addr} {o : HO} (h : H a = some o) (n : H b = none) : a ≠ b := fun e => by
  rw [e, n] at h
  cases h
theorem asg_go {te : TE} {g : TG} {tS : TS} {D : Ends} {σ : L2.St} {H : Hp} (h : te σ H fun v H1 => g v σ H1 fun σ2 H2 => tS D σ2 H2) : tSeq (tAsg te g) tS D σ H := h
theorem len20k {n : Nat} (h : n ≤ 30000) : n < sizeLine := Nat.lt_of_le_of_lt h (by decide)
def sc0 : Scope := { kind := .function, names := [], isGenerator := false, isCoroutine := false, more := [] }
theorem blkOk_any {N : List Str} {sc scope : Scope} {own : List (Str × Nat)} (h : blkC N sc0 scope own = true) : BlkOk N sc scope own := by
  have b := blkOk_by h
  exact ⟨b.kind, b.uniq, b.ix, fun y hy e => (by rcases b.free y hy e with z | z <;> exact nomatch z), b.own⟩
def ofL (l : List Nat) : Str := ⟨l.toArray⟩
theorem ofL_tl (x : Str) : ofL (tl x) = x := by
  cases x with
  | mk a => rfl
theorem tl_ofL (l : List Nat) : tl (ofL l) = l := rfl
theorem Dr.updL {H : Hp} {d D : Addr} {n : Nat} {xs : List V} {o : HO} (h : Dr H d n) (e : H D = some (.lst xs)) (hx : ∀ x ∈ xs, ∀ i, x ≠ .int i) : Dr (upd H D o) d n := by
  obtain ⟨cc, a1, l1, u1, cells, g1, g2, g3, g4⟩ := h
  have dD : d ≠ D := fun z => by
    rw [z, e] at g1
    cases g1
  have cD : cc ≠ D := fun z => by
    rw [z, e] at g2
    have g5 : xs = cells.map V.int := HO.lst.inj (Option.some.inj g2)
    cases cells with
    | nil => exact g3 rfl
    | cons c r => exact hx (.int c) (by rw [g5]; simp) c rfl
  exact ⟨cc, a1, l1, u1, cells, by rw [upd_ne dD]; exact g1, by rw [upd_ne cD]; exact g2, g3, g4⟩
theorem strs_nint {ys : List Str} : ∀ x ∈ ys.map V.str, ∀ i, x ≠ .int i := fun x hx i e => by
  obtain ⟨y, _, ey⟩ := List.mem_map.mp hx
  rw [e] at ey
  cases ey
theorem refs_nint {ys : List Addr} : ∀ x ∈ ys.map V.ref, ∀ i, x ≠ .int i := fun x hx i e => by
  obtain ⟨y, _, ey⟩ := List.mem_map.mp hx
  rw [e] at ey
  cases ey
theorem tC_go {v : V} {σ : L2.St} {H : Hp} {Q : VK} (h : Q v H) : tC v σ H Q := h
theorem gName_go {i : Nat} {v : V} {σ : L2.St} {H : Hp} {k : L2.St → Hp → Prop} (h : k (σ.set i (some v)) H) : gName i v σ H k := h
def sg (a : Nat) : Str := ⟨#[a]⟩
/-- a comprehension over a range, of drawn signs -/
theorem lc_dr {te : TE} {i c d : Nat} {n : Nat} {σ : L2.St} {H1 : Hp} {Q : VK} (hi : i < σ.length) (hc : c ≤ 1000) (dr : Dr H1 d n)
    (step : ∀ (k : Nat) (H' : Hp) (Q' : VK), k < c → Dr H' d (n + k) → Kp d H1 H' → (∀ a H'', a < 128 → Dr H'' d (n + k + 1) → Kp d H' H'' → Q' (.str (sg a)) H'') → te ((wipe σ [i]).set i (some (.int (0 + (k : Nat))))) H' Q')
    (q : ∀ (D : Addr) (H' : Hp) (cs : List Nat), H1 D = none → cs.length = c → (∀ a ∈ cs, a < 128) → Dr H' d (n + c) → Kp d H1 H' → H' D = some (.lst ((cs.map sg).map V.str)) → Q (.ref D) H') :
    ∀ D, H1 D = none → ∃ W : Nat → Nat → Hp → Prop, (∃ m, W 0 m (upd H1 D (.lst []))) ∧ ∀ j m H, W j m H →
      ((Itr 0 c).stop j H ∧ Q (.ref D) H) ∨ ((Itr 0 c).go j H ∧ ∃ Nx : Hp → Prop, (∀ H', Nx H' → ∃ m', m' < m ∧ W (j + 1) m' H') ∧ ∀ x H', (Itr 0 c).yld j H x H' → gName i x (wipe σ [i]) H' fun σ2 H2 => wipe σ2 [i] = wipe σ [i] ∧ tYes σ2 H2 fun b H3 =>
        if b = true then te σ2 H3 fun y H4 => ∃ acc, H4 D = some (.lst acc) ∧ acc.length < sizeLine ∧ Nx (upd H4 D (.lst (acc ++ [y]))) else Nx H3) := by
  intro D nD
  refine lc_it walk_range (fun m H' => ∃ cs : List Nat, cs.length = m ∧ (∀ a ∈ cs, a < 128) ∧ Dr H' d (n + m) ∧ Kp d H1 H' ∧ H' D = some (.lst ((cs.map sg).map V.str))) ⟨[], rfl, (fun _ h => nomatch h), dr.same (same_upd nD), Same.kp (same_upd nD), upd_same⟩ (fun _ _ _ _ => trivial) (fun m x Ha Hb hm pv y => ?_) fun H' pv => ?_
  · obtain ⟨cs, hl, ha, dr', kp, eD⟩ := pv
    obtain ⟨rfl, rfl⟩ := y
    refine ⟨?_, ?_⟩
    · show (((σ.set i none).set i _).set i none) = σ.set i none
      rw [List.set_set, List.set_set]
    · dsimp only [tYes]
      rw [if_pos rfl]
      refine step m Hb _ hm dr' kp fun a Hc h128 dr2 kp2 => ⟨_, kp2.lst dr' eD, ?_, cs ++ [a], ?_, fun b hb => ?_, ?_, ?_, ?_⟩
      · rw [List.length_map, List.length_map, hl]
        exact len20k (by omega)
      · rw [List.length_append, hl]
        rfl
      · rcases List.mem_append.mp hb with h | h
        · exact ha b h
        · rw [List.mem_singleton] at h
          subst h
          exact h128
      · exact dr2.updL (kp2.lst dr' eD) strs_nint
      · exact fun b o nb e => by
          rw [upd_ne (ne_none e nD)]
          exact kp2 b o nb (kp b o nb e)
      · rw [upd_same, List.map_append, List.map_append]
        rfl
  · obtain ⟨cs, hl, ha, dr', kp, eD⟩ := pv
    exact q D H' cs nD hl ha dr' kp eD
theorem lc_drR {ta : TA} {te : TE} {i d : Nat} {n e : Nat} {CC : Nat → Prop} {σ : L2.St} {H : Hp} {Q : VK} (hta : ∀ R : List V → Hp → Prop, (∀ (c : Nat) (H1 : Hp), c ≤ 1000 → CC c → Dr H1 d (n + e) → Kp d H H1 → R [.int (c : Nat)] H1) → ta σ H R) (hi : i < σ.length)
    (step : ∀ (k : Nat) (H1 H' : Hp) (Q' : VK), k < 1000 → Kp d H H1 → Dr H1 d (n + e) → Dr H' d (n + e + k) → Kp d H1 H' → (∀ a H'', a < 128 → Dr H'' d (n + e + k + 1) → Kp d H' H'' → Q' (.str (sg a)) H'') → te ((wipe σ [i]).set i (some (.int (0 + (k : Nat))))) H' Q')
    (q : ∀ (D : Addr) (H' : Hp) (cs : List Nat), H D = none ∨ D = d → D ≠ d → CC cs.length → cs.length ≤ 1000 → (∀ a ∈ cs, a < 128) → Dr H' d (n + e + cs.length) → Kp d H H' → H' D = some (.lst ((cs.map sg).map V.str)) → Q (.ref D) H') : tLc (iRng1 ta) (gName i) tYes te [i] σ H Q := by
  refine hta _ fun c H1 hc cc dr kp => ⟨c, rfl, by omega, by omega, ?_⟩
  rw [Int.toNat_natCast]
  refine lc_dr (te := te) (Q := Q) hi hc dr (fun k H' Q' hk dr' kp' q' => step k H1 H' Q' (by omega) kp dr dr' kp' q') fun D H' cs nD hl ha dr' kp' eD => ?_
  have dD : D ≠ d := by
    obtain ⟨kvs, ed⟩ := dr.at
    exact (ne_none ed nD).symm
  subst hl
  refine q D H' cs ?_ dD cc hc ha dr' (kp.trans kp') eD
  cases eH : H D with
  | none => exact .inl rfl
  | some o => exact absurd (kp D o dD eH) (by rw [nD]; simp)
theorem join_signs (cs : List Nat) : tl (Txt.join "" (cs.map sg)) = cs := by
  rw [join_eq, tl_join]
  have e : ∀ l : List (List Nat), joinL (tl ("" : Str)) l = l.flatten := by
    intro l
    induction l with
    | nil => rfl
    | cons p r ih =>
      cases r with
      | nil =>
        show p = _
        simp
      | cons q r =>
        show p ++ ([] ++ joinL (tl ("" : Str)) (q :: r)) = _
        rw [ih]
        rfl
  rw [e, List.map_map]
  induction cs with
  | nil => rfl
  | cons a r ih =>
    rw [List.map_cons, List.flatten_cons, ih]
    rfl
/-- a text of plain signs, of at most k signs -/
def Sh (k : Nat) (z : Str) : Prop := (∀ c ∈ tl z, c < 128) ∧ (tl z).length ≤ k
theorem Sh.pl {k : Nat} {z : Str} (h : Sh k z) (hk : k ≤ 20000) : Pl z := ⟨h.1, by
  have : z.cps.size = (tl z).length := Array.length_toList.symm
  rw [this]
  exact Nat.le_trans h.2 hk⟩
theorem Sh.len {k : Nat} {z : Str} (h : Sh k z) : z.length ≤ k := by
  rw [len_tl z]
  exact h.2
theorem join_sum (cs : List Nat) : ((cs.map sg).map (·.length)).sum + (cs.map sg).length * ("" : Str).length = cs.length := by
  rw [show ("" : Str).length = 0 by decide +kernel, Nat.mul_zero, Nat.add_zero, List.map_map]
  induction cs with
  | nil => rfl
  | cons a r ih =>
    rw [List.map_cons, List.sum_cons, ih, List.length_cons]
    show 1 + _ = _
    omega
theorem Sh.mono {j k : Nat} {z : Str} (h : Sh j z) (l : j ≤ k) : Sh k z := ⟨h.1, Nat.le_trans h.2 l⟩
theorem Sh.app {j k : Nat} {y z : Str} (a : Sh j y) (b : Sh k z) : Sh (j + k) (y ++ z) := by
  have e : tl (y ++ z) = tl y ++ tl z := tl_append y z
  refine ⟨fun c hc => ?_, ?_⟩
  · rw [e] at hc
    rcases List.mem_append.mp hc with h | h
    · exact a.1 c h
    · exact b.1 c h
  · rw [e, List.length_append]
    have := a.2
    have := b.2
    omega
theorem Sh.cut {k : Nat} {z : Str} (a : Sh k z) (lo hi : Option Int) : Sh k (cutS z lo hi) := by
  have e : tl (cutS z lo hi) = ((z.cps.toList.drop (HT.sIx z.length 0 lo)).take (HT.sIx z.length z.length hi - HT.sIx z.length 0 lo)) := rfl
  refine ⟨fun c hc => ?_, ?_⟩
  · rw [e] at hc
    exact a.1 c (List.mem_of_mem_drop (List.mem_of_mem_take hc))
  · rw [e, List.length_take, List.length_drop]
    have : z.cps.toList.length ≤ k := a.2
    omega
theorem sh_sg {c : Nat} (h : c < 128) : Sh 1 (sg c) := ⟨fun a ha => by
  have : a = c := by simpa [sg] using ha
  rw [this]
  exact h, Nat.le_refl _⟩
theorem sh_join {cs : List Nat} (h : ∀ a ∈ cs, a < 128) : Sh cs.length (Txt.join "" (cs.map sg)) := by
  refine ⟨?_, ?_⟩
  · rw [join_signs]
    exact h
  · rw [join_signs]
    exact Nat.le_refl _
end Pb

namespace Pb
open PySem PySem.Spec PyProof.Rows L2
def top (i : Nat) : Stmt := PySem.Challenge.pw_pathbook_k13_legs_measured.main.body.getD i (.Pass ⟨0, 0, 0, 0⟩)
/-! ### the draw -/
abbrev sBegin : Stmt := top 5
abbrev sMixed : Stmt := top 6
abbrev sNext : Stmt := top 7
theorem scBegin : FnScope ["_law_script"] ["_law_script"] (defScope sBegin) := ⟨rfl, rfl, rfl, by decide +kernel, rfl, by decide +kernel, by decide +kernel⟩
theorem scMixed : FnScope ["_law_cell", "_law_k", "_law_number"] ["_law_cell", "_law_k"] (defScope sMixed) := ⟨rfl, rfl, rfl, by decide +kernel, rfl, by decide +kernel, by decide +kernel⟩
theorem scNext : FnScope ["_law_draw", "_law_many", "_law_found", "_law_cells", "_law_cell"] ["_law_draw", "_law_many"] (defScope sNext) := ⟨rfl, rfl, rfl, by decide +kernel, rfl, by decide +kernel, by decide +kernel⟩
section
variable {P : Program} {w : World} {K : PySem.W.Frag} {mg : Str → Option Value} {base : Heap} {f : Addr} {fd : FuncData}
theorem ok_mixed (F : FnP K "_law_mixed" sMixed f fd) : FnOk P w K mg base CX0 1 f fd ["_law_cell", "_law_k"] spMixed := by
  refine F.ok scMixed (fun vs H Q E h => ?_) (fun cdv A outer s H vs Q E hr h => ?_)
  · obtain ⟨c, k, rfl, _⟩ := h
    rfl
  · obtain ⟨c, k, rfl, h0, h1, q⟩ := h
    refine ⟨_, PSs.nox (pss_cons (ps_set (i := 2) scMixed.nd rfl (.inl rfl) (pe_op op_mod (pe_op op_add (pe_op op_add (pe_op op_add (pe_op op_mod (pv 0) pe_int)
        (pe_op op_mul (pe_op op_mul pe_int (pv 1)) (pv 1))) (pe_op op_mul pe_int (pv 1))) pe_int) pe_int))
      (pss_cons (ps_set (i := 2) scMixed.nd rfl (.inl rfl) (pe_op op_mod (pe_op op_mul (pe_op op_mod (pe_op op_mul (pv 2) (pv 2)) pe_int) (pv 2)) pe_int))
      (pss_one (ps_ret (pe_op op_fdiv (pe_op op_mod (pe_op op_mul (pv 2) (pe_op op_add pe_int (pe_op op_mul pe_int (pe_op op_mod (pv 1) pe_int)))) pe_int) pe_int))))), ?_⟩
    refine ⟨_, rfl, _, _, rfl, rfl, dv _, _, rfl, _, _, rfl, rfl, .inl ⟨by decide, by decide⟩, _, rfl, _, _, rfl, rfl, .inr ⟨by omega, by omega⟩, _, _, rfl, rfl, ?_⟩
    refine ⟨_, rfl, _, _, rfl, rfl, .inl ⟨by decide, by decide⟩, _, _, rfl, rfl, _, _, rfl, rfl, _, _, rfl, rfl, dv _, ?_⟩
    generalize (c % 1000000007 + 7919 * k * k + 31 * k + 7) = z
    have z0 : 0 ≤ z % 2147483647 := Int.emod_nonneg _ (by decide)
    have z1 : z % 2147483647 < 2147483647 := Int.emod_lt_of_pos _ (by decide)
    generalize z % 2147483647 = y at z0 z1
    refine ⟨_, rfl, _, rfl, _, _, rfl, rfl, .inl ⟨by omega, by omega⟩, _, _, rfl, rfl, dv _, _, rfl, _, _, rfl, rfl, .inr ⟨by omega, by omega⟩, _, _, rfl, rfl, dv _, ?_⟩
    generalize y * y % 2147483647 * y = x
    have x0 : 0 ≤ x % 2147483629 := Int.emod_nonneg _ (by decide)
    have x1 : x % 2147483629 < 2147483629 := Int.emod_lt_of_pos _ (by decide)
    generalize x % 2147483629 = u at x0 x1
    refine ⟨_, rfl, _, rfl, _, _, rfl, rfl, dv _, _, _, rfl, rfl, .inl ⟨by decide, by decide⟩, _, _, rfl, rfl, _, _, rfl, rfl, .inl ⟨by omega, by omega⟩, _, _, rfl, rfl, dv _, _, _, rfl, rfl, ⟨by decide, by decide⟩, ?_⟩
    exact q _

theorem ok_next {fM : Addr} {fdM : FuncData} (F : FnP K "_law_next" sNext f fd) (FM : FnP K "_law_mixed" sMixed fM fdM) (gM : mg "_law_mixed" = some (.ref fM)) (gl : mg "len" = none) :
    FnOk P w K mg base CX0 2 f fd ["_law_draw", "_law_many"] spNext := by
  have GM : FnOk P w K mg base CX0 1 fM fdM ["_law_cell", "_law_k"] spMixed := ok_mixed FM
  have bM : Binds K fdM ["_law_cell", "_law_k"] [] := FM.bindsN fun _ _ _ _ _ _ us hl => match us, hl with | [_, _], _ => rfl
  refine F.ok scNext (fun vs H Q E h => ?_) (fun cdv A outer s H vs Q E hr h => ?_)
  · obtain ⟨d, m, n, rfl, _⟩ := h
    rfl
  · obtain ⟨d, m, n, rfl, ⟨c, a, l, u, cells, hd, hc, hne, hlen, a0, a1, u0, u1⟩, m0, m1, hn, q⟩ := h
    have hu := hu_of hr
    refine ⟨_, PSs.nox (pss_cons (ps_if (pt_cmpR op_gt (pe_dget hu (pv 0) pe_str (fun _ _ => rfl)) pe_int (nomark _))
        (pss_cons (ps_set (i := 2) scNext.nd rfl (.inl rfl) (pe_op op_mod (pe_dget hu (pv 0) pe_str (fun _ _ => rfl)) (pv 1)))
          (pss_cons (ps_dput hu (pv 0) pe_str (pe_op op_fdiv (pe_dget hu (pv 0) pe_str (fun _ _ => rfl)) (pv 1)) rfl) (pss_one (ps_ret (pv 2))))) pss_nil)
      (pss_cons (ps_set (i := 3) scNext.nd rfl (.inl rfl) (pe_dget hu (pv 0) pe_str (fun _ _ => rfl)))
      (pss_cons (ps_set (i := 4) scNext.nd rfl (.inl rfl) (pe_ix ix_list (pv 3) (pe_op op_mod (pe_dget hu (pv 0) pe_str (fun _ _ => rfl)) (pe_callB call_len_seq (by rfl) gl PySem.boot_len (pa_cons (pv 3) pa_nil))) (fun _ _ => rfl)))
      (pss_cons (ps_dput hu (pv 0) pe_str (pe_op op_add (pe_dget hu (pv 0) pe_str (fun _ _ => rfl)) pe_int) rfl)
      (pss_cons (ps_if (pw_and (pt_cmpR op_ge (pv 4) (pe_op op_pow pe_int pe_int) (nomark _)) (pw_and1 (pt_cmpR op_le (pe_dget hu (pv 0) pe_str (fun _ _ => rfl)) (pe_callB call_len_seq (by rfl) gl PySem.boot_len (pa_cons (pv 3) pa_nil)) (nomark _)))).pt
        (pss_cons (ps_dput hu (pv 0) pe_str (pe_op op_fdiv (pv 4) (pv 1)) rfl) (pss_one (ps_ret (pe_op op_mod (pv 4) (pv 1))))) pss_nil)
      (pss_cons (ps_dput hu (pv 0) pe_str (pe_op op_add (pe_dget hu (pv 0) pe_str (fun _ _ => rfl)) pe_int) rfl)
      (pss_one (ps_ret (pe_op op_mod (pe_call GM hr rfl gM FM.kp bM .nil pass0 (pa_cons (pe_call GM hr rfl gM FM.kp bM .nil pass0 (pa_cons (pv 4) (pa_cons (pe_dget hu (pv 0) pe_str (fun _ _ => rfl)) pa_nil))) (pa_cons (pe_dget hu (pv 0) pe_str (fun _ _ => rfl)) pa_nil))) (pv 1)))))))))), ?_⟩
    refine ⟨_, rfl, d, .int l, rfl, DGet.k (k := .inr "left") hd, _, _, rfl, rfl, _, rfl, ite2 (fun hl => ?_) (fun hl => ?_)⟩
    · refine ⟨_, rfl, d, .int l, rfl, DGet.k (k := .inr "left") hd, _, rfl, _, _, rfl, rfl, dv _ m0, ?_⟩
      refine ⟨_, rfl, d, .int l, rfl, DGet.k (k := .inr "left") hd, _, rfl, _, _, rfl, rfl, ⟨m0, m1⟩, _, rfl, d, _, rfl, DPut.k (k := .inr "left") hd (dr_len ..), ?_⟩
      refine ⟨_, rfl, q _ _ (Int.emod_nonneg _ (by omega)) (Int.emod_lt_of_pos _ m0) ⟨c, a, l / m, u, cells, ?_, ?_, hne, hlen, a0, by omega, u0, by omega⟩ fun b hb => upd_ne hb⟩
      · rw [upd_same, dp_left]
      · rw [upd_ne (ne_of hc hd (by intro z; cases z))]
        exact hc
    · have hcl : SqL K H c (cells.map V.int) := .of hc
      have hpos : 0 < cells.length := List.length_pos_iff.mpr hne
      have e0 : 0 ≤ a % (cells.length : Int) := Int.emod_nonneg _ (by omega)
      have e1 : a % (cells.length : Int) < cells.length := Int.emod_lt_of_pos _ (by omega)
      obtain ⟨j, ej⟩ : ∃ j : Nat, a % (cells.length : Int) = (j : Int) := ⟨_, (Int.toNat_of_nonneg e0).symm⟩
      have hj : j < cells.length := by omega
      have gj : atI (cells.map V.int) (a % ((cells.map V.int).length : Int)) = some (.int cells[j]) := by
        rw [List.length_map, ej]
        exact atI_nat (by rw [List.getElem?_map, List.getElem?_eq_getElem hj]; rfl)
      refine ⟨_, rfl, d, .ref c, rfl, DGet.k (k := .inr "cells") hd, ?_⟩
      refine ⟨_, rfl, _, rfl, d, .int a, rfl, DGet.k (k := .inr "at") hd, _, rfl, c, _, rfl, .inl hcl, _, _, rfl, rfl, dv _ (by rw [List.length_map]; omega), c, _, _, _, rfl, rfl, hcl, gj, ?_⟩
      generalize cells[j] = cell
      have h1d : (upd H d (.dK (drV c (a + 1) l u))) d = some (.dK (drV c (a + 1) l u)) := upd_same
      have h1c : (upd H d (.dK (drV c (a + 1) l u))) c = some (.lst (cells.map V.int)) := by
        rw [upd_ne (ne_of hc hd (by intro z; cases z))]
        exact hc
      refine ⟨_, rfl, d, .int a, rfl, DGet.k (k := .inr "at") hd, _, _, rfl, rfl, _, rfl, d, _, rfl, DPut.k (k := .inr "at") hd (dr_len ..), ?_⟩
      rw [dp_at]
      generalize hH : upd H d (.dK (drV c (a + 1) l u)) = H1 at h1d h1c
      have b1 : But d H H1 := fun b hb => by
        rw [← hH]
        exact upd_ne hb
      refine ⟨_, rfl, _, _, rfl, rfl, ⟨by decide, by decide, by decide⟩, _, _, rfl, rfl, _, rfl, ?_⟩
      have rest : ∀ D : Ends, D.rt = Q → (tSeq (sDPut (tVar 0) (tC (.str "used")) (tOp (rI0 fun i j => .int (i + j)) (tDGet (tVar 0) (tC (.str "used"))) (tC (.int 1))))
          (tRet (tOp (rI (fun _ j => 0 < j) fun i j => .int (i % j)) (tCall spMixed [] E0 (tCons (tCall spMixed [] E0 (tCons (tVar 4) (tCons (tDGet (tVar 0) (tC (.str "at"))) tNil))) (tCons (tDGet (tVar 0) (tC (.str "used"))) tNil))) (tVar 1)))) D
          [some (.ref d), some (.int m), none, some (.ref c), some (.int cell)] H1 := fun D eD => by
        refine ⟨_, rfl, d, .int u, rfl, DGet.k (k := .inr "used") h1d, _, _, rfl, rfl, _, rfl, d, _, rfl, DPut.k (k := .inr "used") h1d (dr_len ..), ?_⟩
        rw [dp_used]
        have h2d : (upd H1 d (.dK (drV c (a + 1) l (u + 1)))) d = some (.dK (drV c (a + 1) l (u + 1))) := upd_same
        refine ⟨_, rfl, _, rfl, d, .int (a + 1), rfl, DGet.k (k := .inr "at") h2d, _, _, rfl, by omega, by omega, fun v => ?_⟩
        refine ⟨_, rfl, d, .int (u + 1), rfl, DGet.k (k := .inr "used") h2d, _, _, rfl, by omega, by omega, fun v => ?_⟩
        refine ⟨_, rfl, _, _, rfl, rfl, dv _ m0, ?_⟩
        rw [eD]
        refine q _ _ (Int.emod_nonneg _ (by omega)) (Int.emod_lt_of_pos _ m0) ⟨c, a + 1, l, u + 1, cells, h2d, ?_, hne, hlen, by omega, by omega, by omega, by omega⟩ fun b hb => ?_
        · rw [upd_ne (ne_of h1c h1d (by intro z; cases z))]
          exact h1c
        · rw [upd_ne hb]
          exact b1 b hb
      refine ite2 (fun hA => ?_) (fun hA => ?_)
      · refine ⟨_, rfl, d, .int (a + 1), rfl, DGet.k (k := .inr "at") h1d, _, rfl, c, _, rfl, .inl (.of h1c), _, _, rfl, rfl, _, rfl, ite2 (fun hB => ?_) (fun hB => ?_)⟩
        · refine ⟨_, rfl, _, rfl, _, _, rfl, rfl, ⟨m0, m1⟩, _, rfl, d, _, rfl, DPut.k (k := .inr "left") h1d (dr_len ..), ?_⟩
          refine ⟨_, rfl, _, rfl, _, _, rfl, rfl, dv _ m0, q _ _ (Int.emod_nonneg _ (by omega)) (Int.emod_lt_of_pos _ m0) ⟨c, a + 1, cell / m, u, cells, ?_, ?_, hne, hlen, by omega, by omega, u0, by omega⟩ fun b hb => ?_⟩
          · rw [upd_same, dp_left]
          · rw [upd_ne (ne_of h1c h1d (by intro z; cases z))]
            exact h1c
          · rw [upd_ne hb]
            exact b1 b hb
        · exact rest _ rfl
      · exact iteF (rest _ rfl)
theorem ok_begin (F : FnP K "_law_begin" sBegin f fd) : FnOk P w K mg base CX0 1 f fd ["_law_script"] (spBegin K) := by
  refine F.ok scBegin (fun vs H Q E h => ?_) (fun cdv A outer s H vs Q E hr h => ?_)
  · obtain ⟨a, ns, rfl, _⟩ := h
    rfl
  · obtain ⟨a, ns, rfl, hS, hlen, q⟩ := h
    refine ⟨_, PSs.nox (pss_one (ps_ret (pe_disp (pps_cons pe_str (pe_op op_catS (pv 0) (pe_lst (pa_cons pe_int pa_nil))) (pps_cons pe_str pe_int (pps_cons pe_str pe_int (pps_cons pe_str pe_int pps_nil)))) (by rfl) (by rfl) (fun z => by cases z) (by decide)))), ?_⟩
    refine fun d nd => ⟨_, rfl, (by decide), fun z nz => ?_⟩
    have dz : z ≠ d := fun e => by
      rw [e, upd_same] at nz
      cases nz
    have nz0 : H z = none := by
      rw [upd_ne dz] at nz
      exact nz
    have hA : SqL K (upd (upd H d (.dK [])) z (.lst [.int 0])) a (ns.map V.int) := (same_upd nz).seq ((same_upd nd).seq hS)
    refine ⟨a, z, _, _, rfl, rfl, hA, .of upd_same, ?_, fun c nc => ?_⟩
    · rw [List.length_map]
      exact Nat.le_of_lt (small1000 (by show ns.length + 1 ≤ 1000; omega))
    have cz : c ≠ z := fun e => by
      rw [e, upd_same] at nc
      cases nc
    have nc1 : upd H d (.dK []) c = none := by
      rw [upd_ne cz] at nc
      exact nc
    have cd : c ≠ d := fun e => by
      rw [e, upd_same] at nc1
      cases nc1
    have nc0 : H c = none := by
      rw [upd_ne cd] at nc1
      exact nc1
    refine ⟨?_, [(.inr "cells", .ref c), (.inr "at", .int 0), (.inr "left", .int 0), (.inr "used", .int 0)], rfl, (by show 4 ≤ 15; decide), ?_⟩
    · rw [upd_ne cd.symm, upd_ne dz.symm, upd_same]
    · refine q _ d c nc0 nd ⟨c, 0, 0, 0, ns ++ [0], ?_, ?_, ?_, ?_, by decide, by decide, by decide, by decide⟩ fun b hc hd hb => ?_
      · rw [upd_same]
        rfl
      · rw [upd_ne cd, upd_same, List.map_append]
        rfl
      · simp
      · rw [List.length_append]
        show ns.length + 1 ≤ 100
        omega
      · have bz : b ≠ z := fun e => hb (by rw [e]; exact nz0)
        rw [upd_ne hd, upd_ne hc, upd_ne bz, upd_ne hd]
end
end Pb

namespace Pb
open PySem PySem.Spec PyProof.Rows L2 TL
/-! ### words -/
theorem asgE_go {te : TE} {g : TG} {D : Ends} {σ : L2.St} {H : Hp} (h : te σ H fun v H1 => g v σ H1 D.nx) : tAsg te g D σ H := h
theorem op_go {r : R2} {ta tb : TE} {σ : L2.St} {H : Hp} {Q : VK} (h : ta σ H fun x H1 => tb σ H1 fun y H2 => r x y H2 Q) : tOp r ta tb σ H Q := h
def ltr : Str := "abcdefghijklmnopqrstuvwxyz"
theorem ltr_asc : ∀ c ∈ ltr.cps.toList, c < 128 := by decide +kernel
def lt (i : Nat) : Nat := ltr.cps.toList.getD i 0
theorem at_ltr {v : Int} {i : Nat} (h : v = (i : Nat)) (hi : i < 26) : atI ltr.cps.toList v = some (lt i) := by
  subst h
  have hl : ltr.cps.toList.length = 26 := by decide +kernel
  refine atI_nat ?_
  unfold lt
  rw [List.getD_eq_getElem?_getD, List.getElem?_eq_getElem (by omega)]
  rfl
def two (k : Nat) : Str := ofL [lt (k / 26), lt (k % 26)]
def rest676 : List Str := (List.range 676).map two
theorem lt_eq : ∀ i, i < 26 → lt i = 97 + i := by decide +kernel
theorem two_nd : rest676.Nodup := by
  unfold rest676
  have inj : ∀ a ∈ List.range 676, ∀ b ∈ List.range 676, two a = two b → a = b := fun a ha b hb e => by
    rw [List.mem_range] at ha hb
    have e1 : tl (two a) = tl (two b) := congrArg tl e
    have e2 : [lt (a / 26), lt (a % 26)] = [lt (b / 26), lt (b % 26)] := e1
    injection e2 with e3 e4
    injection e4 with e5 _
    rw [lt_eq _ (by omega), lt_eq _ (by omega)] at e3 e5
    omega
  unfold List.Nodup
  rw [List.pairwise_map]
  refine List.Pairwise.imp_of_mem (fun {a b} ha hb hab e => hab (inj a ha b hb e)) (List.nodup_range (n := 676))
theorem two_sh {y : Str} (h : y ∈ rest676) : Sh 8 y := by
  obtain ⟨k, hk, rfl⟩ := List.mem_map.mp h
  rw [List.mem_range] at hk
  refine ⟨fun c hc => ?_, ?_⟩
  · have hc2 : c ∈ [lt (k / 26), lt (k % 26)] := hc
    simp only [List.mem_cons, List.not_mem_nil, or_false] at hc2
    rcases hc2 with e | e
    · rw [e, lt_eq _ (by omega)]
      omega
    · rw [e, lt_eq _ (by omega)]
      omega
  · show [lt (k / 26), lt (k % 26)].length ≤ 8
    simp
theorem filter_len {α : Type} [DecidableEq α] : ∀ (f l : List α), l.Nodup → l.length ≤ (l.filter fun x => !decide (x ∈ f)).length + f.length
  | [], l, _ => by
    have : (l.filter fun x => !decide (x ∈ ([] : List α))) = l := by
      rw [List.filter_eq_self]
      intro a _
      simp
    rw [this]
    exact Nat.le_add_right _ _
  | a :: f, l, nd => by
    have ih := filter_len f (l.filter fun x => !decide (x = a)) (nd.filter _)
    have e : ((l.filter fun x => !decide (x = a)).filter fun x => !decide (x ∈ f)) = l.filter fun x => !decide (x ∈ a :: f) := by
      rw [List.filter_filter]
      refine List.filter_congr fun x _ => ?_
      by_cases h1 : x = a <;> by_cases h2 : x ∈ f <;> simp [h1, h2]
    rw [e] at ih
    have l1 : l.length ≤ (l.filter fun x => !decide (x = a)).length + 1 := by
      clear ih e
      induction l with
      | nil => exact Nat.zero_le _
      | cons b l ihl =>
        obtain ⟨nb, nl⟩ := List.nodup_cons.mp nd
        by_cases hb : b = a
        · subst hb
          have : (l.filter fun x => !decide (x = b)) = l := by
            rw [List.filter_eq_self]
            intro x hx
            have : x ≠ b := fun e => nb (by rw [← e]; exact hx)
            simp [this]
          rw [List.filter_cons, if_neg (by simp), this]
          exact Nat.le_refl _
        · rw [List.filter_cons, if_pos (by simp [hb]), List.length_cons, List.length_cons]
          have := ihl nl
          omega
    rw [List.length_cons]
    omega
def tenW : List Str := ["ride", "book", "closed", "walk", "section", "halts", "beside", "badge", "length", "climb"]
theorem ten_split : Txt.split "ride book closed walk section halts beside badge length climb" " " = tenW := by decide +kernel
theorem ten_sh {y : Str} (h : y ∈ tenW) : Sh 8 y := by
  have : ∀ y ∈ tenW, (y.cps.toList.all fun c => decide (c < 128)) = true ∧ y.cps.toList.length ≤ 8 := by decide +kernel
  obtain ⟨h1, h2⟩ := this y h
  exact ⟨fun c hc => of_decide_eq_true (List.all_eq_true.mp h1 c hc), h2⟩
theorem inV_str {x : Str} {ys : List Str} : inV (.str x) (ys.map V.str) = decide (x ∈ ys) := by
  unfold inV
  induction ys with
  | nil => rfl
  | cons y r ih =>
    rw [List.map_cons, List.any_cons, ih]
    show ((y == x) || decide (x ∈ r)) = decide (x ∈ y :: r)
    by_cases h : y = x
    · subst h
      simp
    · have h2 : (y == x) = false := by simp [h]
      rw [h2]
      have h3 : ¬ x = y := fun e => h e.symm
      simp [h3]
theorem flat_strs (ys : List Str) : (ys.map V.str).all flatV = true := by
  rw [List.all_eq_true]
  intro x hx
  obtain ⟨y, _, rfl⟩ := List.mem_map.mp hx
  rfl
abbrev sWords : Stmt := top 8
abbrev nWords : List Str := ["_law_draw", "_law_many", "_law_letters", "_law_found", "_law_size", "_law_word", "_law_words_here", "_law_rest", "_law_k", "_law_one"]
theorem scWords : FnScope nWords ["_law_draw", "_law_many"] (defScope sWords) := ⟨rfl, rfl, rfl, by decide +kernel, rfl, by decide +kernel, by decide +kernel⟩
/-- many texts, each of at most eight plain signs, in a new list -/
def spWords : Sp := fun vs H Q _ => ∃ (d : Addr) (m n : Nat), vs = [.ref d, .int (m : Nat)] ∧ Dr H d n ∧ n < 2 ^ 37 ∧ m ≤ 30 ∧ ∀ (r : Addr) (ys : List Str) (H' : Hp), H r = none → ys.length = m → (∀ y ∈ ys, Sh 8 y) → Dr H' d (n + 20 * m) → Kp d H H' → H' r = some (.lst (ys.map V.str)) → Q (.ref r) H'
/-- the two-letter texts -/
theorem lc_676 {σ : L2.St} {H : Hp} {Q : VK} (h2 : σ[2]? = some (some (.str ltr))) (h8 : 8 < σ.length) (q : ∀ H' D, Same H H' → H D = none → H' D = some (.lst (rest676.map V.str)) → Q (.ref D) H') :
    tLc (iRng1 (tCons (tC (.int 676)) tNil)) (gName 8) tYes (tOp (fun x y H Q => ∃ i j, x = .str i ∧ y = .str j ∧ i.length + j.length ≤ sizeLine ∧ Q (.str (i ++ j)) H) (tOp rIxS (tVar 2) (tOp (rI CDiv fun i j => .int (i / j)) (tVar 8) (tC (.int 26)))) (tOp rIxS (tVar 2) (tOp (rI (fun _ j => 0 < j) fun i j => .int (i % j)) (tVar 8) (tC (.int 26))))) [8] σ H Q := by
  refine ⟨676, rfl, by decide, by decide, fun D nD => lc_it walk_range (fun k H' => Same H H' ∧ H' D = some (.lst (((List.range k).map two).map V.str))) ⟨same_upd nD, upd_same⟩ (fun _ _ _ _ => trivial) (fun k x Ha Hb hk pv y => ?_) fun H' pv => ?_⟩
  · obtain ⟨sm, eD⟩ := pv
    obtain ⟨rfl, rfl⟩ := y
    have hk6 : k < 676 := hk
    have g8 : ∀ x, ((wipe σ [8]).set 8 (some x))[8]? = some (some x) := fun x => set_get (by rw [wipe_length]; exact h8)
    have g2 : ∀ x, ((wipe σ [8]).set 8 x)[2]? = some (some (.str ltr)) := fun x => by
      show ((σ.set 8 none).set 8 x)[2]? = _
      rw [List.getElem?_set_ne (by decide), List.getElem?_set_ne (by decide)]
      exact h2
    refine ⟨?_, ?_⟩
    · show (((σ.set 8 none).set 8 _).set 8 none) = σ.set 8 none
      rw [List.set_set, List.set_set]
    · dsimp only [tYes]
      rw [if_pos rfl]
      have l26 : ltr.length ≤ sizeLine := by decide +kernel
      refine ⟨_, g2 _, _, g8 _, _, _, rfl, rfl, ⟨by decide, by decide⟩, ltr, _, lt (k / 26), rfl, rfl, l26, at_ltr (i := k / 26) (by omega) (by omega), _, g2 _, _, g8 _, _, _, rfl, rfl, (by show (0 : Int) < 26; decide), ltr, _, lt (k % 26), rfl, rfl, l26, at_ltr (i := k % 26) (by omega) (by omega), _, _, rfl, rfl, (by show 1 + 1 ≤ sizeLine; decide), _, eD, ?_, fun b o e => ?_, ?_⟩
      · rw [List.length_map, List.length_map, List.length_range]
        exact len20k (by omega)
      · rw [upd_ne (ne_none e nD)]
        exact sm _ _ e
      · rw [upd_same, List.range_succ, List.map_append, List.map_append]
        rfl
  · obtain ⟨sm, eD⟩ := pv
    exact q _ _ sm nD eD
/-- those of a list of texts that aren't in another -/
theorem lc_free {K : PySem.W.Frag} {σ : L2.St} {H : Hp} {Q : VK} {p r : Addr} {xs ys : List Str} {i : Nat} (h7 : σ[7]? = some (some (.ref p))) (h3 : σ[3]? = some (some (.ref r))) (hi : i < σ.length) (hi3 : i ≠ 3) (ep : H p = some (.lst (xs.map V.str))) (er : H r = some (.lst (ys.map V.str))) (hx : xs.length ≤ 1000)
    (q : ∀ H' D, Same H H' → H D = none → H' D = some (.lst ((xs.filter fun x => !decide (x ∈ ys)).map V.str)) → Q (.ref D) H') :
    tLc (iList K (tVar 7)) (gName i) (tB (tOp (rIn K true) (tVar i) (tVar 3))) (tVar i) [i] σ H Q := by
  refine ⟨_, h7, p, rfl, ⟨_, .of ep⟩, fun D nD => lc_it (walk_list (K := K) (a := p) (xs := xs.map V.str)) (fun k H' => Same H H' ∧ H' D = some (.lst (((xs.take k).filter fun x => !decide (x ∈ ys)).map V.str))) ⟨same_upd nD, upd_same⟩ (fun _ H' _ pv => .of (pv.1 _ _ ep)) (fun k x Ha Hb hk pv y => ?_) fun H' pv => ?_⟩
  · obtain ⟨sm, eD⟩ := pv
    obtain ⟨rfl, gx⟩ := y
    rw [List.getElem?_map] at gx
    obtain ⟨z, gz, rfl⟩ := Option.map_eq_some_iff.mp gx
    have tk : (xs.take (k + 1)).filter (fun x => !decide (x ∈ ys)) = (xs.take k).filter (fun x => !decide (x ∈ ys)) ++ (if (!decide (z ∈ ys)) = true then [z] else []) := by
      rw [List.take_add_one, gz, List.filter_append]
      congr 1
      show List.filter _ [z] = _
      rw [List.filter_cons, List.filter_nil]
    have gi : ∀ x, ((wipe σ [i]).set i (some x))[i]? = some (some x) := fun x => set_get (by rw [wipe_length]; exact hi)
    have g3 : ∀ x, ((wipe σ [i]).set i x)[3]? = some (some (.ref r)) := fun x => by
      show ((σ.set i none).set i x)[3]? = _
      rw [List.getElem?_set_ne hi3, List.getElem?_set_ne hi3]
      exact h3
    refine ⟨?_, _, gi _, _, g3 _, r, _, rfl, .inl (.of (sm _ _ er)), rfl, flat_strs ys, _, rfl, ?_⟩
    · show (((σ.set i none).set i _).set i none) = σ.set i none
      rw [List.set_set, List.set_set]
    · rw [inV_str]
      show if (!decide (z ∈ ys)) = true then _ else _
      by_cases hc : (!decide (z ∈ ys)) = true
      · rw [if_pos hc]
        rw [if_pos hc] at tk
        refine ⟨_, gi _, _, eD, ?_, fun b o e => ?_, ?_⟩
        · rw [List.length_map]
          exact Nat.lt_of_le_of_lt (List.length_filter_le _ _) (len20k (by rw [List.length_take]; omega))
        · rw [upd_ne (ne_none e nD)]
          exact sm _ _ e
        · rw [upd_same, tk, List.map_append]
          rfl
      · rw [if_neg hc]
        rw [if_neg hc, List.append_nil] at tk
        exact ⟨sm, by rw [eD, tk]⟩
  · obtain ⟨sm, eD⟩ := pv
    rw [List.length_map, List.take_length] at eD
    exact q _ _ sm nD eD
def t676 : TE := tLc (iRng1 (tCons (tC (.int 676)) tNil)) (gName 8) tYes (tOp (fun x y H Q => ∃ i j, x = .str i ∧ y = .str j ∧ i.length + j.length ≤ sizeLine ∧ Q (.str (i ++ j)) H) (tOp rIxS (tVar 2) (tOp (rI CDiv fun i j => .int (i / j)) (tVar 8) (tC (.int 26)))) (tOp rIxS (tVar 2) (tOp (rI (fun _ j => 0 < j) fun i j => .int (i % j)) (tVar 8) (tC (.int 26))))) [8]
def tFreeW (K : PySem.W.Frag) : TE := tLc (iList K (tVar 7)) (gName 9) (tB (tOp (rIn K true) (tVar 9) (tVar 3))) (tVar 9) [9]
def tTailW (K : PySem.W.Frag) : TS := tSeq (tIfS (tTest (tOp (rIn K false) (tVar 5) (tVar 3))) (tSeq (tAsg t676 (gName 7)) (tAsg (tOp (rIxL K) (tFreeW K) (tCall spNext [] E0 (tCons (tVar 0) (tCons (tC (.int 600)) tNil)))) (gName 5))) tNext) (tDrop (tBM K "list" rAppend (tVar 3) (tCons (tVar 5) tNil)))
theorem tail_words {K : PySem.W.Frag} {D : Ends} {d r : Addr} {m n : Nat} {ys : List Str} {wd : Str} {H Hx : Hp} {y4 y6 y7 : Option V} (hl : ys.length < 30) (hn : n < 2 ^ 38) (nr : H r = none)
    (hD : ∀ (wd' : Str) (y5 y7' : Option V) (H'' : Hp), Sh 8 wd' → Dr H'' d (n + 1) → Kp d H H'' → H'' r = some (.lst ((ys ++ [wd']).map V.str)) → D.nx [some (.ref d), some (.int (m : Nat)), some (.str ltr), some (.ref r), y4, y5, y6, y7', none, none] H'')
    (sh : Sh 8 wd) (dr : Dr Hx d n) (kp : Kp d H Hx) (er : Hx r = some (.lst (ys.map V.str))) : tTailW K D [some (.ref d), some (.int (m : Nat)), some (.str ltr), some (.ref r), y4, some (.str wd), y6, y7, none, none] Hx := by
  have fin : ∀ (wd' : Str) (y7' : Option V) (H2 : Hp) (D' : Ends), D'.nx = D.nx → Sh 8 wd' → Dr H2 d (n + 1) → Kp d H H2 → H2 r = some (.lst (ys.map V.str)) → tDrop (tBM K "list" rAppend (tVar 3) (tCons (tVar 5) tNil)) D' [some (.ref d), some (.int (m : Nat)), some (.str ltr), some (.ref r), y4, some (.str wd'), y6, y7', none, none] H2 := fun wd' y7' H2 D' eD sh2 dr2 k2 e2 => by
    refine ⟨_, rfl, .inl ⟨rfl, _, .of e2⟩, _, rfl, r, _, _, rfl, rfl, e2, ?_, ?_⟩
    · rw [List.length_map]
      exact len20k (by omega)
    · show D'.nx _ _
      rw [eD]
      refine hD wd' _ _ _ sh2 (dr2.updL e2 strs_nint) (fun b o nb e => ?_) ?_
      · rw [upd_ne (ne_none e nr)]
        exact k2 b o nb e
      · rw [upd_same, List.map_append]
        rfl
  refine ⟨_, rfl, _, rfl, r, _, rfl, .inl (.of er), rfl, flat_strs ys, _, rfl, ?_⟩
  refine ite2 (fun hin => ?_) (fun hin => ?_)
  · refine asg_go (lc_676 (σ := [some (.ref d), some (.int (m : Nat)), some (.str ltr), some (.ref r), y4, some (.str wd), y6, y7, none, none]) rfl (Nat.lt_of_sub_eq_succ rfl) fun H1 p s1 np ep => gName_go ?_)
    refine asgE_go (op_go ?_)
    refine lc_free (K := K) (i := 9) (σ := [some (.ref d), some (.int (m : Nat)), some (.str ltr), some (.ref r), y4, some (.str wd), y6, some (.ref p), none, none]) rfl rfl (Nat.lt_of_sub_eq_succ rfl) (by decide) ep (s1 _ _ er) (by unfold rest676; rw [List.length_map, List.length_range]; decide) fun H2 p2 s2 np2 ep2 => ?_
    have dr2 := dr.same (s1.trans s2)
    refine ⟨_, rfl, d, 600, _, rfl, dr2, by decide, by decide, by omega, fun v H3 h0 h1 dr3 bt => ?_⟩
    have fl := filter_len ys rest676 two_nd
    have l676 : rest676.length = 676 := by unfold rest676; rw [List.length_map, List.length_range]
    obtain ⟨x, hx, hat⟩ := at_list (xs := (rest676.filter fun x => !decide (x ∈ ys)).map V.str) h0 (by rw [List.length_map]; omega)
    obtain ⟨y, hy, rfl⟩ := List.mem_map.mp hx
    refine ⟨p2, _, _, _, rfl, rfl, .of (bt.kp.lst dr2 ep2), hat, ?_⟩
    exact fin y _ H3 _ rfl (two_sh (List.mem_filter.mp hy).1) dr3 (kp.trans ((Same.kp (s1.trans s2)).trans bt.kp)) (bt.kp.lst dr2 (s2 _ _ (s1 _ _ er)))
  · exact fin wd _ Hx _ rfl sh (dr.mono (by omega)) kp er
def lenAt (H : Hp) (r : Addr) : Nat := match H r with
  | some (.lst xs) => xs.length
  | _ => 0
theorem lenAt_of {H : Hp} {r : Addr} {xs : List V} (e : H r = some (.lst xs)) : lenAt H r = xs.length := by
  unfold lenAt
  rw [e]
section
variable {P : Program} {w : World} {K : PySem.W.Frag} {mg : Str → Option Value} {base : Heap} {f : Addr} {fd : FuncData}
theorem ok_words {fN : Addr} {dN : FuncData} (F : FnD K "_law_words" sWords [] f fd) (gl : mg "len" = none) (gR : mg "range" = none) (FN : FnP K "_law_next" sNext fN dN) (gN : mg "_law_next" = some (.ref fN)) (GN : FnOk P w K mg base CX0 2 fN dN ["_law_draw", "_law_many"] spNext) :
    FnOk P w K mg base CX0 3 f fd ["_law_draw", "_law_many"] spWords := by
  have bN : Binds K dN ["_law_draw", "_law_many"] [] := FN.bindsN fun _ _ _ _ _ _ us hl => match us, hl with | [_, _], _ => rfl
  refine F.ok scWords (fun vs H Q E h => ?_) (fun cdv A outer s H vs Q E hr h => ?_)
  · obtain ⟨d, m, n, rfl, _⟩ := h
    rfl
  · obtain ⟨d, m, n, rfl, dr, hn, hm, q⟩ := h
    refine ⟨_, PSs.nox (pss_cons (ps_set (i := 2) scWords.nd rfl (.inr rfl) pe_str) (pss_cons (ps_set (i := 3) scWords.nd rfl (.inr rfl) (pe_lst pa_nil))
      (pss_cons (ps_while PassesOwn.never (pt_cmpR op_lt (pe_callB call_len_seq rfl gl PySem.boot_len (pa_cons (pv 3) pa_nil)) (pv 1) (nomark _))
        (pss_cons (ps_set (i := 4) scWords.nd rfl (.inl rfl) (pe_ix ix_list (pe_lst (pa_cons (pe_op op_add pe_int (pe_call GN hr rfl gN FN.kp bN .nil pass0 (pa_cons (pv 0) (pa_cons pe_int pa_nil)))) (pa_cons (pe_op op_add pe_int (pe_call GN hr rfl gN FN.kp bN .nil pass0 (pa_cons (pv 0) (pa_cons pe_int pa_nil)))) (pa_cons pe_int pa_nil)))) (pe_call GN hr rfl gN FN.kp bN .nil pass0 (pa_cons (pv 0) (pa_cons pe_int pa_nil))) (fun _ _ => rfl)))
        (pss_cons (ps_set (i := 5) scWords.nd rfl (.inl rfl) (pe_join pe_str (pe_lc (own := [("_law_k", 8)]) (g := gName 8) (tt := tYes) rfl scWords.nd (pi_range1 rfl gR (pa_cons (pv 4) pa_nil)) (blkOk_by (N := nWords) (sc := defScope sWords) (by decide +kernel)) (fun _ _ _ _ _ => pg_name (i := 8) scWords.nd rfl (.inl rfl)) (fun _ _ _ _ _ => pts_nil)
            (te := tOp rIxS (tVar 2) (tCall spNext [] E0 (tCons (tVar 0) (tCons (tC (.int 26)) tNil)))) (fun _ _ _ _ _ => pe_ix ix_str (pv 2) (pe_call GN hr rfl gN FN.kp bN .nil pass0 (pa_cons (pv 0) (pa_cons pe_int pa_nil))) (fun _ _ => rfl)))))
        (pss_cons (ps_if (pt_cmpR op_eq (pe_call GN hr rfl gN FN.kp bN .nil pass0 (pa_cons (pv 0) (pa_cons pe_int pa_nil))) pe_int (nomark _))
            (pss_cons (ps_set (i := 6) scWords.nd rfl (.inl rfl) (pe_split pe_str pe_str)) (pss_one (ps_set (i := 5) scWords.nd rfl (.inl rfl) (pe_ix ix_list (pv 6) (pe_call GN hr rfl gN FN.kp bN .nil pass0 (pa_cons (pv 0) (pa_cons pe_int pa_nil))) (fun _ _ => rfl))))) pss_nil)
        (pss_cons (ps_if (pt_cmpR op_in_seq (pv 5) (pv 3) rfl)
            (pss_cons (ps_setLc (i := 7) (own := [("_law_k", 8)]) (g := gName 8) (tt := tYes) rfl scWords.nd rfl rfl (sw_true rfl rfl rfl (by decide +kernel)) (pi_range1 rfl gR (pa_cons pe_int pa_nil)) (blkOk_by (N := nWords) (sc := defScope sWords) (by decide +kernel)) (fun _ _ _ _ _ => pg_name (i := 8) scWords.nd rfl (.inl rfl)) (fun _ _ _ _ _ => pts_nil)
                (te := tOp (fun x y H Q => ∃ i j, x = .str i ∧ y = .str j ∧ i.length + j.length ≤ sizeLine ∧ Q (.str (i ++ j)) H) (tOp rIxS (tVar 2) (tOp (rI CDiv fun i j => .int (i / j)) (tVar 8) (tC (.int 26)))) (tOp rIxS (tVar 2) (tOp (rI (fun _ j => 0 < j) fun i j => .int (i % j)) (tVar 8) (tC (.int 26)))))
                (fun _ _ _ _ _ => pe_op op_add_str (pe_ix ix_str (pv 2) (pe_op op_fdiv (pv 8) pe_int) (fun _ _ => rfl)) (pe_ix ix_str (pv 2) (pe_op op_mod (pv 8) pe_int) (fun _ _ => rfl))))
              (pss_one (ps_set (i := 5) scWords.nd rfl (.inl rfl) (pe_ix ix_list (pe_lc (own := [("_law_one", 9)]) (g := gName 9) (tt := tB (tOp (rIn K true) (tVar 9) (tVar 3))) (te := tVar 9) rfl scWords.nd (pi_list (pv 7)) (blkOk_by (N := nWords) (sc := defScope sWords) (by decide +kernel)) (fun _ _ _ _ _ => pg_name (i := 9) scWords.nd rfl (.inl rfl))
                (fun _ _ _ _ _ => pts_one (pt_cmpR op_notIn_seq (pv 9) (pv 3) rfl)) (fun _ _ _ _ _ => pv 9)) (pe_call GN hr rfl gN FN.kp bN .nil pass0 (pa_cons (pv 0) (pa_cons pe_int pa_nil))) (fun _ _ => rfl))))) pss_nil)
        (pss_one (ps_expr (pe_bm PySem.F.plainAttrs_list PySem.F.slot_list_append PySem.F.type_list_append mt_append (pv 3) (pa_cons (pv 5) pa_nil)))))))))
      (pss_one (ps_ret (pv 3)))))), ?_⟩
    dsimp only [cxOf]
    refine asg_go (tC_go (gName_go ?_))
    refine ⟨Nat.zero_le _, fun r nr => ?_⟩
    obtain ⟨s0, e0⟩ := nxo (o := .lst []) nr
    have dr0 := dr.same s0
    have k0 : Kp d H (upd H r (.lst [])) := Same.kp s0
    generalize upd H r (.lst []) = H0 at s0 e0 dr0 k0 ⊢
    refine gName_go ?_
    try dsimp only
    refine while_by (fun σ H' => ∃ (ys : List Str) (y4 y5 y6 y7 : Option V), σ = [some (.ref d), some (.int (m : Nat)), some (.str ltr), some (.ref r), y4, y5, y6, y7, none, none] ∧ ys.length ≤ m ∧ (∀ y ∈ ys, Sh 8 y) ∧ Dr H' d (n + 20 * ys.length) ∧ Kp d H H' ∧ H' r = some (.lst (ys.map V.str))) (fun σ H' => m - lenAt H' r)
      ⟨[], none, none, none, none, rfl, Nat.zero_le _, (fun _ h => nomatch h), dr0, k0, e0⟩ (fun σ H' pv => ?_) (fun σ H' Q1 Q2 mono h => ?_)
    · obtain ⟨ys, y4, y5, y6, y7, rfl, hl, hsh, dr1, kp1, er⟩ := pv
      refine ⟨_, rfl, r, _, rfl, .inl (.of er), _, rfl, _, _, rfl, rfl, _, rfl, ite2 (fun hlt => ?_) (fun hge => ?_)⟩
      · have hlt' : ys.length < m := by
          rw [List.length_map] at hlt
          have := of_decide_eq_true hlt
          omega
        clear hlt
        -- the size
        refine ⟨_, rfl, d, 2, _, rfl, dr1, by decide, by decide, by omega, fun v1 Ha p1 q1 dra ba => ?_⟩
        refine ⟨_, _, rfl, rfl, _, rfl, d, 8, _, rfl, dra, by decide, by decide, by omega, fun v2 Hb p2 q2 drb bb => ?_⟩
        refine ⟨_, _, rfl, rfl, (by show 3 ≤ sizeLine; decide), fun l1 k1 => ?_⟩
        obtain ⟨s1, e1⟩ := nxo (o := .lst [.int (1 + v1), .int (1 + v2), .int 8]) k1
        have drs := drb.same s1
        have kps : Kp d H' (upd Hb l1 (.lst [.int (1 + v1), .int (1 + v2), .int 8])) := ba.kp.trans (bb.kp.trans (Same.kp s1))
        refine ⟨_, rfl, d, 3, _, rfl, drs, by decide, by decide, by omega, fun v3 Hc p3 q3 drc bc => ?_⟩
        obtain ⟨x, hx, hat⟩ := at_list (xs := [.int (1 + v1), .int (1 + v2), .int 8]) p3 q3
        have hz : ∃ z : Nat, x = .int z ∧ z ≤ 8 := by
          simp only [List.mem_cons, List.not_mem_nil, or_false] at hx
          rcases hx with e | e | e
          · exact ⟨(1 + v1).toNat, by rw [e, Int.toNat_of_nonneg (by omega)], by omega⟩
          · exact ⟨(1 + v2).toNat, by rw [e, Int.toNat_of_nonneg (by omega)], by omega⟩
          · exact ⟨8, e, by decide⟩
        obtain ⟨z, rfl, hz8⟩ := hz
        have kpc := kps.trans bc.kp
        refine ⟨l1, _, _, _, rfl, rfl, .of (bc.kp.lst drs e1), hat, ?_⟩
        clear hat hx p3 q3 bc drs kps s1 e1 k1 ba bb dra drb
        refine gName_go ?_
        try dsimp only
        -- the word
        refine asg_go ⟨⟨_, rfl⟩, ?_⟩
        refine lc_drR (d := d) (n := n + 20 * ys.length + 1 + 1 + 1) (e := 0) (i := 8) (CC := fun c => c = z) (te := tOp rIxS (tVar 2) (tCall spNext [] E0 (tCons (tVar 0) (tCons (tC (.int 26)) tNil)))) (σ := [some (.ref d), some (.int (m : Nat)), some (.str ltr), some (.ref r), some (.int (z : Nat)), y5, y6, y7, none, none]) (fun R h => ⟨_, rfl, h z Hc (by omega) rfl drc (Kp.refl _)⟩) (Nat.lt_of_sub_eq_succ rfl)
          (fun k H1 Hx Q' hk kpa dra dr' kp' q' => ?_) fun D Hd cs nD dD hcl hcl1 ha drd kpd eD => ?_
        · refine ⟨_, rfl, _, rfl, d, 26, _, rfl, dr', by decide, by decide, by omega, fun v H'' h0 h1 dr'' bt => ?_⟩
          obtain ⟨c, hc, hat⟩ := at_sign (z := ltr) h0 (by rw [show ltr.length = 26 by decide +kernel]; exact h1)
          exact ⟨ltr, v, c, rfl, rfl, by decide +kernel, hat, q' c H'' (ltr_asc c hc) dr'' bt.kp⟩
        · refine ⟨"", D, cs.map sg, rfl, rfl, .inl (.of eD), (by rw [join_sum]; omega), ?_⟩
          have shw : Sh 8 (Txt.join "" (cs.map sg)) := (sh_join ha).mono (by omega)
          generalize Txt.join "" (cs.map sg) = w0 at shw ⊢
          refine gName_go ?_
          try dsimp only
          have drd' : Dr Hd d (n + 20 * ys.length + 11) := drd.mono (by omega)
          have kpd' := (kp1.trans kpc).trans kpd
          have erd := (kpc.trans kpd).lst dr1 er
          clear drd eD ha nD
          -- perhaps another word
          refine ⟨_, rfl, d, 9, _, rfl, drd', by decide, by decide, by omega, fun v4 He p4 q4 dre be => ⟨rfl, _, rfl, ?_⟩⟩
          have ere := be.kp.lst drd' erd
          have kpe := kpd'.trans be.kp
          refine ite2 (fun h4 => ?_) (fun h4 => ?_)
          · refine ⟨⟨_, rfl⟩, _, " ", rfl, rfl, rfl, (by decide +kernel), fun p np => ?_⟩
            rw [ten_split]
            obtain ⟨sp, ep⟩ := nxo (o := .lst (tenW.map V.str)) np
            have drp := dre.same sp
            refine ⟨_, rfl, _, rfl, d, 10, _, rfl, drp, by decide, by decide, by omega, fun v5 Hf p5 q5 drf bf => ?_⟩
            obtain ⟨x, hx, hat⟩ := at_list (xs := tenW.map V.str) p5 q5
            obtain ⟨y, hy, rfl⟩ := List.mem_map.mp hx
            refine ⟨p, _, _, _, rfl, rfl, .of (bf.kp.lst drp ep), hat, ?_⟩
            refine tail_words (n := n + 20 * ys.length + 11 + 1 + 1) (by omega) (by omega) nr (fun wd' y5 y7' H'' sh2 dr2 k2 e2 => ⟨⟨ys ++ [wd'], _, _, _, _, rfl, ?_, ?_, dr2.mono ?_, k2, e2⟩, ?_⟩) (ten_sh hy) drf (kpe.trans ((Same.kp sp).trans bf.kp)) (bf.kp.lst drp (sp _ _ ere))
            · rw [List.length_append]
              show ys.length + 1 ≤ m
              omega
            · intro y hy
              rcases List.mem_append.mp hy with h | h
              · exact hsh y h
              · rw [List.mem_singleton.mp h]
                exact sh2
            · rw [List.length_append]
              show _ ≤ n + 20 * (ys.length + 1)
              omega
            · show m - lenAt H'' r < m - lenAt H' r
              rw [lenAt_of e2, lenAt_of er, List.length_map, List.length_map, List.length_append]
              show m - (ys.length + 1) < m - ys.length
              omega
          · refine tail_words (n := n + 20 * ys.length + 11 + 1) (by omega) (by omega) nr (fun wd' y5 y7' H'' sh2 dr2 k2 e2 => ⟨⟨ys ++ [wd'], _, _, _, _, rfl, ?_, ?_, dr2.mono ?_, k2, e2⟩, ?_⟩) shw dre kpe ere
            · rw [List.length_append]
              show ys.length + 1 ≤ m
              omega
            · intro y hy
              rcases List.mem_append.mp hy with h | h
              · exact hsh y h
              · rw [List.mem_singleton.mp h]
                exact sh2
            · rw [List.length_append]
              show _ ≤ n + 20 * (ys.length + 1)
              omega
            · show m - lenAt H'' r < m - lenAt H' r
              rw [lenAt_of e2, lenAt_of er, List.length_map, List.length_map, List.length_append]
              show m - (ys.length + 1) < m - ys.length
              omega
      · have e : ys.length = m := by
          rw [List.length_map] at hge
          have : ¬ ((ys.length : Int) < m) := fun h => hge (decide_eq_true h)
          omega
        refine ⟨_, rfl, q r ys H' nr e hsh (dr1.mono (by omega)) kp1 er⟩
    · obtain ⟨v, e, a, xs, h1, h2, h3⟩ := h
      refine ⟨v, e, a, xs, h1, h2, ?_⟩
      obtain ⟨v2, e2, i, j, h4, h5, b, h6, h7⟩ := h3
      exact ⟨v2, e2, i, j, h4, h5, b, h6, mono _ _ h7⟩
end
end Pb

namespace Pb
open PySem PySem.Spec PyProof.Rows L2 TL
/-! ### stretches and sections -/
abbrev Tri := Int × Int × Int
def triV (t : Tri) : List V := [.int t.1, .int t.2.1, .int t.2.2]
def TriOk (t : Tri) : Prop := 0 ≤ t.1 ∧ t.1 ≤ 999 ∧ 0 ≤ t.2.1 ∧ t.2.1 ≤ 999 ∧ 0 ≤ t.2.2 ∧ t.2.2 ≤ 999
theorem triOk {a b c : Int} (h1 : 0 ≤ a ∧ a ≤ 999) (h2 : 0 ≤ b ∧ b ≤ 999) (h3 : 0 ≤ c ∧ c ≤ 999) : TriOk (a, b, c) := ⟨h1.1, h1.2, h2.1, h2.2, h3.1, h3.2⟩
abbrev sStr : Stmt := top 9
abbrev sSec : Stmt := top 10
theorem scStr : FnScope ["_law_draw", "_law_way"] ["_law_draw"] (defScope sStr) := ⟨rfl, rfl, rfl, by decide +kernel, rfl, by decide +kernel, by decide +kernel⟩
def spStr : Sp := fun vs H Q _ => ∃ (d : Addr) (n : Nat), vs = [.ref d] ∧ Dr H d n ∧ n < 2 ^ 38 ∧ ∀ (t : Tri) (p : Addr) (H' : Hp), TriOk t → H p = none → p ≠ d → Dr H' d (n + 4) → Kp d H H' → H' p = some (.tup (triV t)) → Q (.ref p) H'
theorem Kp.none_of {d p : Addr} {H H' : Hp} (k : Kp d H H') (hd : p ≠ d) (h : H' p = none) : H p = none := by
  cases e : H p with
  | none => rfl
  | some o =>
    rw [k p o hd e] at h
    cases h
theorem Dr.ne {H : Hp} {d p : Addr} {n : Nat} (h : Dr H d n) (np : H p = none) : p ≠ d := by
  obtain ⟨kvs, ed⟩ := h.at
  exact (ne_none ed np).symm
section
variable {P : Program} {w : World} {K : PySem.W.Frag} {mg : Str → Option Value} {base : Heap} {f : Addr} {fd : FuncData}
theorem ok_str {fN : Addr} {dN : FuncData} (F : FnD K "_law_stretch" sStr [] f fd) (FN : FnP K "_law_next" sNext fN dN) (gN : mg "_law_next" = some (.ref fN)) (GN : FnOk P w K mg base CX0 2 fN dN ["_law_draw", "_law_many"] spNext) :
    FnOk P w K mg base CX0 3 f fd ["_law_draw"] spStr := by
  have bN : Binds K dN ["_law_draw", "_law_many"] [] := FN.bindsN fun _ _ _ _ _ _ us hl => match us, hl with | [_, _], _ => rfl
  refine F.ok scStr (fun vs H Q E h => ?_) (fun cdv A outer s H vs Q E hr h => ?_)
  · obtain ⟨d, n, rfl, _⟩ := h
    rfl
  · obtain ⟨d, n, rfl, dr, hn, q⟩ := h
    refine ⟨_, PSs.nox (pss_cons (ps_set (i := 1) scStr.nd rfl (.inl rfl) (pe_call GN hr rfl gN FN.kp bN .nil pass0 (pa_cons (pv 0) (pa_cons pe_int pa_nil))))
      (pss_cons (ps_if (pt_cmpR op_eq (pv 1) pe_int (nomark _)) (pss_one (ps_ret (pe_tup (pa_cons (pe_op op_add pe_int (pe_call GN hr rfl gN FN.kp bN .nil pass0 (pa_cons (pv 0) (pa_cons pe_int pa_nil)))) (pa_cons (pe_call GN hr rfl gN FN.kp bN .nil pass0 (pa_cons (pv 0) (pa_cons pe_int pa_nil))) (pa_cons (pe_call GN hr rfl gN FN.kp bN .nil pass0 (pa_cons (pv 0) (pa_cons pe_int pa_nil))) pa_nil)))))) pss_nil)
      (pss_cons (ps_if (pt_cmpR op_eq (pv 1) pe_int (nomark _)) (pss_one (ps_ret (pe_tup (pa_cons pe_int (pa_cons pe_int (pa_cons (pe_call GN hr rfl gN FN.kp bN .nil pass0 (pa_cons (pv 0) (pa_cons pe_int pa_nil))) pa_nil)))))) pss_nil)
      (pss_cons (ps_if (pt_cmpR op_eq (pv 1) pe_int (nomark _)) (pss_one (ps_ret (pe_tup (pa_cons pe_int (pa_cons pe_int (pa_cons (pe_op op_mul pe_int (pe_call GN hr rfl gN FN.kp bN .nil pass0 (pa_cons (pv 0) (pa_cons pe_int pa_nil)))) pa_nil)))))) pss_nil)
      (pss_one (ps_ret (pe_tup (pa_cons (pe_op op_add pe_int (pe_call GN hr rfl gN FN.kp bN .nil pass0 (pa_cons (pv 0) (pa_cons pe_int pa_nil)))) (pa_cons (pe_call GN hr rfl gN FN.kp bN .nil pass0 (pa_cons (pv 0) (pa_cons pe_int pa_nil))) (pa_cons (pe_call GN hr rfl gN FN.kp bN .nil pass0 (pa_cons (pv 0) (pa_cons pe_int pa_nil))) pa_nil)))))))))), ?_⟩
    try dsimp only [cxOf]
    have fin : ∀ (t : Tri) (H2 : Hp) (j : Nat), TriOk t → j ≤ n + 4 → Dr H2 d j → Kp d H H2 → 3 ≤ sizeLine ∧ ∀ p, H2 p = none → Q (.ref p) (upd H2 p (.tup (triV t))) := fun t H2 j ok hj d2 k2 => by
      refine ⟨by decide, fun p np => ?_⟩
      have pd := d2.ne np
      obtain ⟨sp, ep⟩ := nxo (o := .tup (triV t)) np
      exact q t p _ ok (k2.none_of pd np) pd ((d2.same sp).mono hj) (k2.trans (Same.kp sp)) ep
    refine ⟨_, rfl, d, 4, n, rfl, dr, by decide, by decide, by omega, fun v Ha p q0 dra ba => ?_⟩
    refine ⟨_, rfl, rfl, _, rfl, ite2 (fun h => ?_) (fun h => ?_)⟩
    · refine ⟨_, rfl, d, 999, _, rfl, dra, by decide, by decide, by omega, fun v1 Hb p1 q1 drb bb => ?_⟩
      refine ⟨_, _, rfl, rfl, _, rfl, d, 1000, _, rfl, drb, by decide, by decide, by omega, fun v2 Hc p2 q2 drc bc => ?_⟩
      refine ⟨_, rfl, d, 1000, _, rfl, drc, by decide, by decide, by omega, fun v3 Hd p3 q3 drd bd => ?_⟩
      exact fin (1 + v1, v2, v3) Hd _ (triOk (by omega) (by omega) (by omega)) (by omega) drd (ba.kp.trans (bb.kp.trans (bc.kp.trans bd.kp)))
    refine ⟨_, rfl, rfl, _, rfl, ite2 (fun h => ?_) (fun h => ?_)⟩
    · refine ⟨_, rfl, d, 2, _, rfl, dra, by decide, by decide, by omega, fun v3 Hb p3 q3 drb bb => ?_⟩
      exact fin (1, 0, v3) Hb _ (triOk (by decide) (by decide) (by omega)) (by omega) drb (ba.kp.trans bb.kp)
    refine ⟨_, rfl, rfl, _, rfl, ite2 (fun h => ?_) (fun h => ?_)⟩
    · refine ⟨_, rfl, d, 2, _, rfl, dra, by decide, by decide, by omega, fun v3 Hb p3 q3 drb bb => ?_⟩
      refine ⟨_, _, rfl, rfl, .inl ⟨by decide, by decide⟩, ?_⟩
      exact fin (999, 999, 999 * v3) Hb _ (triOk (by decide) (by decide) (by omega)) (by omega) drb (ba.kp.trans bb.kp)
    · refine ⟨_, rfl, d, 9, _, rfl, dra, by decide, by decide, by omega, fun v1 Hb p1 q1 drb bb => ?_⟩
      refine ⟨_, _, rfl, rfl, _, rfl, d, 9, _, rfl, drb, by decide, by decide, by omega, fun v2 Hc p2 q2 drc bc => ?_⟩
      refine ⟨_, rfl, d, 9, _, rfl, drc, by decide, by decide, by omega, fun v3 Hd p3 q3 drd bd => ?_⟩
      exact fin (1 + v1, v2, v3) Hd _ (triOk (by omega) (by omega) (by omega)) (by omega) drd (ba.kp.trans (bb.kp.trans (bc.kp.trans bd.kp)))
end
/-! sections as they lie -/
def TrisAt (H : Hp) (as : List Addr) (ts : List Tri) : Prop := as.length = ts.length ∧ ∀ (i : Nat) (a : Addr) (t : Tri), as[i]? = some a → ts[i]? = some t → H a = some (.tup (triV t))
theorem TrisAt.kp {d : Addr} {n : Nat} {H H' : Hp} {as : List Addr} {ts : List Tri} (h : TrisAt H as ts) (dr : Dr H d n) (k : Kp d H H') : TrisAt H' as ts := ⟨h.1, fun i a t h1 h2 => k.tup dr (h.2 i a t h1 h2)⟩
theorem TrisAt.same {H H' : Hp} {as : List Addr} {ts : List Tri} (h : TrisAt H as ts) (s : Same H H') : TrisAt H' as ts := ⟨h.1, fun i a t h1 h2 => s _ _ (h.2 i a t h1 h2)⟩
theorem TrisAt.snoc {H : Hp} {as : List Addr} {ts : List Tri} {a : Addr} {t : Tri} (h : TrisAt H as ts) (e : H a = some (.tup (triV t))) : TrisAt H (as ++ [a]) (ts ++ [t]) := by
  obtain ⟨hl, hr⟩ := h
  refine ⟨by rw [List.length_append, List.length_append, hl]; rfl, fun i b r h1 h2 => ?_⟩
  rw [List.getElem?_append] at h1 h2
  rw [hl] at h1
  by_cases hi : i < ts.length
  · rw [if_pos hi] at h1 h2
    exact hr i b r h1 h2
  · rw [if_neg hi] at h1 h2
    cases hk : i - ts.length with
    | zero =>
      rw [hk] at h1 h2
      cases h1
      cases h2
      exact e
    | succ k =>
      rw [hk] at h1
      cases h1
/-- the section of that name, marks and stretches lies at p -/
def SecAt (H : Hp) (p : Addr) (nm : Str) (ms : List Str) (ts : List Tri) : Prop := ∃ (a b : Addr) (as : List Addr), H p = some (.tup [.str nm, .ref a, .ref b]) ∧ H a = some (.tup (ms.map V.str)) ∧ H b = some (.tup (as.map V.ref)) ∧ TrisAt H as ts
theorem SecAt.kp {d : Addr} {n : Nat} {H H' : Hp} {p : Addr} {nm : Str} {ms : List Str} {ts : List Tri} (h : SecAt H p nm ms ts) (dr : Dr H d n) (k : Kp d H H') : SecAt H' p nm ms ts := by
  obtain ⟨a, b, as, h1, h2, h3, h4⟩ := h
  exact ⟨a, b, as, k.tup dr h1, k.tup dr h2, k.tup dr h3, h4.kp dr k⟩
theorem SecAt.same {H H' : Hp} {p : Addr} {nm : Str} {ms : List Str} {ts : List Tri} (h : SecAt H p nm ms ts) (k : Same H H') : SecAt H' p nm ms ts := by
  obtain ⟨a, b, as, h1, h2, h3, h4⟩ := h
  exact ⟨a, b, as, k _ _ h1, k _ _ h2, k _ _ h3, h4.same k⟩
def triD (t : Tri) : PyData := .tuple [.int t.1, .int t.2.1, .int t.2.2]
def secD (nm : Str) (ms : List Str) (ts : List Tri) : PyData := .tuple [.str nm, .tuple (ms.map .str), .tuple (ts.map triD)]
theorem dp_tri {K : PySem.W.Frag} {H : Hp} {a : Addr} {t : Tri} (e : H a = some (.tup (triV t))) : Dp K H (.ref a) (triD t) := .tup (.of e) (.cons (.int _) (.cons (.int _) (.cons (.int _) .nil)))
theorem dp_strT {K : PySem.W.Frag} {H : Hp} {p : Addr} (ys : List Str) (e : H p = some (.tup (ys.map V.str))) : Dp K H (.ref p) (.tuple (ys.map .str)) := by
  refine .tup (.of e) ?_
  clear e
  induction ys with
  | nil => exact .nil
  | cons y r ih => exact .cons (.str y) ih
theorem dpAll_tris {K : PySem.W.Frag} {H : Hp} {as : List Addr} {ts : List Tri} (h : TrisAt H as ts) : DpAll K H (as.map V.ref) (ts.map triD) := by
  induction as generalizing ts with
  | nil =>
    cases ts with
    | nil => exact .nil
    | cons a r => exact absurd h.1 (by simp)
  | cons a as ih =>
    cases ts with
    | nil => exact absurd h.1 (by simp)
    | cons t ts => exact .cons (dp_tri (h.2 0 a t rfl rfl)) (ih ⟨by have := h.1; simp at this; exact this, fun i b r h1 h2 => h.2 (i + 1) b r h1 h2⟩)
theorem SecAt.dp {K : PySem.W.Frag} {H : Hp} {p : Addr} {nm : Str} {ms : List Str} {ts : List Tri} (h : SecAt H p nm ms ts) : Dp K H (.ref p) (secD nm ms ts) := by
  obtain ⟨a, b, as, h1, h2, h3, h4⟩ := h
  exact .tup (.of h1) (.cons (.str nm) (.cons (dp_strT ms h2) (.cons (.tup (.of h3) (dpAll_tris h4)) .nil)))
end Pb

namespace Pb
open PySem PySem.Spec PyProof.Rows L2 TL
abbrev nSec : List Str := ["_law_draw", "_law_name", "_law_pool", "_law_many", "_law_marks", "_law_ways", "_law_rest", "_law_one", "_law_k"]
theorem scSec : FnScope nSec ["_law_draw", "_law_name", "_law_pool"] (defScope sSec) := ⟨rfl, rfl, rfl, by decide +kernel, rfl, by decide +kernel, by decide +kernel⟩
def spSec : Sp := fun vs H Q _ => ∃ (d pp : Addr) (nm : Str) (ys : List Str) (n : Nat), vs = [.ref d, .str nm, .ref pp] ∧ Dr H d n ∧ n < 2 ^ 37 ∧ H pp = some (.lst (ys.map V.str)) ∧ ys ≠ [] ∧ ys.length ≤ 30 ∧ (∀ y ∈ ys, Sh 8 y) ∧
  ∀ (p : Addr) (ms : List Str) (ts : List Tri) (H' : Hp), H p = none → ms.length = ts.length + 1 → ms.length ≤ 8 → (∀ y ∈ ms, Sh 8 y) → (∀ t ∈ ts, TriOk t) → Dr H' d (n + 60) → Kp d H H' → SecAt H' p nm ms ts → Q (.ref p) H'
theorem atI_last {α : Type} (xs : List α) (x : α) : atI (xs ++ [x]) (-1) = some x := by
  unfold atI ixN
  rw [if_neg (by decide)]
  have : (xs ++ [x]).length = xs.length + 1 := by simp
  simp only [this]
  rw [if_pos (by omega)]
  have e : ((-1 : Int) + ((xs.length + 1 : Nat) : Int)).toNat = xs.length := by omega
  show (xs ++ [x])[((-1 : Int) + ((xs.length + 1 : Nat) : Int)).toNat]? = some x
  rw [e]
  simp
theorem atI_last2 {α : Type} (xs : List α) (x y : α) : atI (xs ++ [x] ++ [y]) (-2) = some x := by
  unfold atI ixN
  rw [if_neg (by decide)]
  have : (xs ++ [x] ++ [y]).length = xs.length + 2 := by simp
  simp only [this]
  rw [if_pos (by omega)]
  have e : ((-2 : Int) + ((xs.length + 2 : Nat) : Int)).toNat = xs.length := by omega
  show (xs ++ [x] ++ [y])[((-2 : Int) + ((xs.length + 2 : Nat) : Int)).toNat]? = some x
  rw [e]
  simp
def PairsAt (H : Hp) (as : List Addr) (ws : List (Str × Str)) : Prop := as.length = ws.length ∧ ∀ (i : Nat) (a : Addr) (t : Str × Str), as[i]? = some a → ws[i]? = some t → H a = some (.tup [.str t.1, .str t.2])
theorem PairsAt.kp {d : Addr} {n : Nat} {H H' : Hp} {as : List Addr} {ws : List (Str × Str)} (h : PairsAt H as ws) (dr : Dr H d n) (k : Kp d H H') : PairsAt H' as ws := ⟨h.1, fun i a t h1 h2 => k.tup dr (h.2 i a t h1 h2)⟩
theorem PairsAt.same {H H' : Hp} {as : List Addr} {ws : List (Str × Str)} (h : PairsAt H as ws) (s : Same H H') : PairsAt H' as ws := ⟨h.1, fun i a t h1 h2 => s _ _ (h.2 i a t h1 h2)⟩
theorem PairsAt.updL {H : Hp} {as : List Addr} {ws : List (Str × Str)} {r : Addr} {xs : List V} {o : HO} (h : PairsAt H as ws) (e : H r = some (.lst xs)) : PairsAt (upd H r o) as ws := ⟨h.1, fun i a t h1 h2 => by
  have ea := h.2 i a t h1 h2
  rw [upd_ne (ne_of ea e (by intro z; cases z))]
  exact ea⟩
theorem PairsAt.snoc {H : Hp} {as : List Addr} {ws : List (Str × Str)} {a : Addr} {t : Str × Str} (h : PairsAt H as ws) (e : H a = some (.tup [.str t.1, .str t.2])) : PairsAt H (as ++ [a]) (ws ++ [t]) := by
  obtain ⟨hl, hr⟩ := h
  refine ⟨by rw [List.length_append, List.length_append, hl]; rfl, fun i b r h1 h2 => ?_⟩
  rw [List.getElem?_append] at h1 h2
  rw [hl] at h1
  by_cases hi : i < ws.length
  · rw [if_pos hi] at h1 h2
    exact hr i b r h1 h2
  · rw [if_neg hi] at h1 h2
    cases hk : i - ws.length with
    | zero =>
      rw [hk] at h1 h2
      cases h1
      cases h2
      exact e
    | succ k =>
      rw [hk] at h1
      cases h1
def prD (t : Str × Str) : PyData := .tuple [.str t.1, .str t.2]
theorem dp_prs {K : PySem.W.Frag} {H : Hp} {r : Addr} {as : List Addr} {ws : List (Str × Str)} (h : PairsAt H as ws) (e : H r = some (.lst (as.map V.ref))) : Dp K H (.ref r) (.list (ws.map prD)) := by
  refine .lst (.of e) ?_
  clear e
  induction as generalizing ws with
  | nil =>
    cases ws with
    | nil => exact .nil
    | cons a r => exact absurd h.1 (by simp)
  | cons a as ih =>
    cases ws with
    | nil => exact absurd h.1 (by simp)
    | cons t ws => exact .cons (.tup (.of (h.2 0 a t rfl rfl)) (.cons (.str _) (.cons (.str _) .nil))) (ih ⟨by have := h.1; simp at this; exact this, fun i b r h1 h2 => h.2 (i + 1) b r h1 h2⟩)
theorem shp_pr {t : Str × Str} (h1 : ∀ c ∈ tl t.1, c < 128) (h2 : ∀ c ∈ tl t.2, c < 128) : SeqAt.shaped (prD t) = true := by
  have a : PyData.canLay0 (prD t) = true := lay_all _ fun d hd => by
    simp only [List.mem_cons, List.not_mem_nil, or_false] at hd
    rcases hd with e | e
    · rw [e]; exact lay_str h1
    · rw [e]; exact lay_str h2
  have b : (prD t).depth ≤ 64 := by
    show max 0 (max 0 0) + 1 ≤ 64
    decide
  unfold SeqAt.shaped
  rw [a, decide_eq_true b]
  rfl
theorem shp_prs {ws : List (Str × Str)} (h : ∀ t ∈ ws, (∀ c ∈ tl t.1, c < 128) ∧ ∀ c ∈ tl t.2, c < 128) : SeqAt.shaped (.list (ws.map prD)) = true := by
  have a : PyData.canLay0 (.list (ws.map prD)) = true := lay_all _ fun d hd => by
    obtain ⟨t, ht, e⟩ := List.mem_map.mp hd
    rw [← e]
    exact lay_all _ fun d hd => by
      simp only [List.mem_cons, List.not_mem_nil, or_false] at hd
      rcases hd with e | e
      · rw [e]; exact lay_str (h t ht).1
      · rw [e]; exact lay_str (h t ht).2
  have b : (PyData.list (ws.map prD)).depth ≤ 64 := by
    have : PyData.depthAll (ws.map prD) ≤ 1 := depth_all _ fun d hd => by
      obtain ⟨t, ht, e⟩ := List.mem_map.mp hd
      rw [← e]
      show max 0 (max 0 0) + 1 ≤ 1
      decide
    show PyData.depthAll (ws.map prD) + 1 ≤ 64
    omega
  unfold SeqAt.shaped
  rw [a, decide_eq_true b]
  rfl
def tM1_ (K : PySem.W.Frag) : TE := tOp (rIxL K) (tVar 4) (tUn (rU fun i => .int (-i)) (tC (.int 1)))
/-- those marks of the pool that can come next -/
theorem lc_next {K : PySem.W.Frag} {σ : L2.St} {H : Hp} {Q : VK} {pp rm wa : Addr} {ys ms : List Str} {l : Str} {ts : List Addr} {ws : List (Str × Str)} (h2 : σ[2]? = some (some (.ref pp))) (h4 : σ[4]? = some (some (.ref rm))) (h5 : σ[5]? = some (some (.ref wa))) (hi : 7 < σ.length)
    (ep : H pp = some (.lst (ys.map V.str))) (em : H rm = some (.lst ((ms ++ [l]).map V.str))) (ew : H wa = some (.lst (ts.map V.ref))) (pw : PairsAt H ts ws) (yl : ys.length ≤ 30) (ysh : ∀ y ∈ ys, Sh 8 y) (lsh : Sh 8 l) (wsh : ∀ t ∈ ws, Sh 8 t.1 ∧ Sh 8 t.2)
    (q : ∀ (H' : Hp) (D : Addr) (rs : List Str), Same H H' → H D = none → (∀ y ∈ rs, y ∈ ys) → rs.length ≤ 30 → H' D = some (.lst (rs.map V.str)) → Q (.ref D) H') :
    tLc (iList K (tVar 2)) (gName 7) (tAnd (tTest (tOp rNe (tVar 7) (tM1_ K))) (tTest (tOp (rNotInD K) (tTup (tCons (tM1_ K) (tCons (tVar 7) tNil))) (tVar 5)))) (tVar 7) [7] σ H Q := by
  refine ⟨_, h2, pp, rfl, ⟨_, .of ep⟩, fun D nD => lc_it (walk_list (K := K) (a := pp) (xs := ys.map V.str)) (fun k H' => Same H H' ∧ ∃ rs : List Str, (∀ y ∈ rs, y ∈ ys) ∧ rs.length ≤ k ∧ H' D = some (.lst (rs.map V.str))) ⟨same_upd nD, [], (fun _ h => nomatch h), Nat.zero_le _, upd_same⟩ (fun _ H' _ pv => .of (pv.1 _ _ ep)) (fun k x Ha Hb hk pv y => ?_) fun H' pv => ?_⟩
  · obtain ⟨sm, rs, hr, hl, eD⟩ := pv
    obtain ⟨rfl, gx⟩ := y
    rw [List.length_map] at hk
    rw [List.getElem?_map] at gx
    obtain ⟨z, gz, rfl⟩ := Option.map_eq_some_iff.mp gx
    have hz := List.mem_of_getElem? gz
    have gi : ∀ x, ((wipe σ [7]).set 7 (some x))[7]? = some (some x) := fun x => set_get (by rw [wipe_length]; exact hi)
    have gk : ∀ (j : Nat) (x : Option V) (y : Option V), j ≠ 7 → σ[j]? = some y → ((wipe σ [7]).set 7 x)[j]? = some y := fun j x y hj e => by
      show ((σ.set 7 none).set 7 x)[j]? = _
      rw [List.getElem?_set_ne (Ne.symm hj), List.getElem?_set_ne (Ne.symm hj)]
      exact e
    have la : atI ((ms ++ [l]).map V.str) (-1) = some (.str l) := by
      rw [List.map_append]
      exact atI_last _ _
    have keep : ∀ H', Same Hb H' → Same H H' ∧ ∃ rs : List Str, (∀ y ∈ rs, y ∈ ys) ∧ rs.length ≤ k + 1 ∧ H' D = some (.lst (rs.map V.str)) := fun H' s => ⟨sm.trans s, rs, hr, by omega, s _ _ eD⟩
    refine ⟨?_, _, gi _, _, gk 4 _ _ (by decide) h4, _, rfl, rm, _, _, _, rfl, rfl, .of (sm _ _ em), la, rfl, _, rfl, ?_⟩
    · show (((σ.set 7 none).set 7 _).set 7 none) = σ.set 7 none
      rw [List.set_set, List.set_set]
    · refine ite2 (fun h => ?_) (fun h => ?_)
      · refine ⟨_, gk 4 _ _ (by decide) h4, _, rfl, rm, _, _, _, rfl, rfl, .of (sm _ _ em), la, _, gi _, (by show 2 ≤ sizeLine; decide), fun t nt => ?_⟩
        obtain ⟨st, et⟩ := nxo (o := .tup [.str l, .str z]) nt
        generalize upd Hb t (.tup [.str l, .str z]) = Hc at st et ⊢
        refine ⟨_, gk 5 _ _ (by decide) h5, prD (l, z), _, .tup (.of et) (.cons (.str _) (.cons (.str _) .nil)), dp_prs ((pw.same sm).same st) (st _ _ (sm _ _ ew)), shp_pr lsh.1 (ysh z hz).1, shp_prs fun t ht => ⟨(wsh t ht).1.1, (wsh t ht).2.1⟩, _, rfl, ?_⟩
        refine ite2 (fun h => ?_) (fun h => keep _ st)
        refine ⟨_, gi _, _, st _ _ eD, ?_, fun b o e => ?_, rs ++ [z], fun y hy => ?_, ?_, ?_⟩
        · rw [List.length_map]
          exact len20k (by omega)
        · rw [upd_ne (ne_none e nD)]
          exact st _ _ (sm _ _ e)
        · rcases List.mem_append.mp hy with h | h
          · exact hr y h
          · rw [List.mem_singleton.mp h]
            exact hz
        · rw [List.length_append]
          show rs.length + 1 ≤ k + 1
          omega
        · rw [upd_same, List.map_append]
          rfl
      · exact keep _ (Same.refl _)
  · obtain ⟨sm, rs, hr, hl, eD⟩ := pv
    rw [List.length_map] at hl
    exact q _ _ rs sm nD hr (by omega) eD
def restAt (σ : L2.St) (H : Hp) : Nat := match (σ[6]? : Option (Option V)) with
  | some (some (.ref ra)) => min 1 (lenAt H ra)
  | _ => 0
def rTupOf (K : PySem.W.Frag) : List V → Hp → VK → Prop := fun xs H Q => ∃ p ys, xs = [.ref p] ∧ ((SqL K H p ys ∧ ∀ l, H l = none → Q (.ref l) (upd H l (.tup ys))) ∨ (SqT K H p ys ∧ Q (.ref p) H))
def rLenQ (K : PySem.W.Frag) : List V → Hp → VK → Prop := fun xs H Q => ∃ p ys, xs = [V.ref p] ∧ (SqL K H p ys ∨ SqT K H p ys) ∧ Q (V.int (ys.length : Nat)) H
def tStrs (K : PySem.W.Frag) : TE := tLc (iRng1 (tCons (tOp (rI0 fun i j => .int (i - j)) (tCB (rLenQ K) (tCons (tVar 4) tNil)) (tC (.int 1))) tNil)) (gName 8) tYes (tCall spStr [] E0 (tCons (tVar 0) tNil)) [8]
def tEndS (K : PySem.W.Frag) : TS := tRet (tTup (tCons (tVar 1) (tCons (tCB (rTupOf K) (tCons (tVar 4) tNil)) (tCons (tCB (rTupOf K) (tCons (tStrs K) tNil)) tNil))))
theorem end_sec {K : PySem.W.Frag} {D : Ends} {d rm : Addr} {n : Nat} {nm : Str} {ms : List Str} {H H1 : Hp} {y2 y3 y5 y6 y7 : Option V} (hn : n < 2 ^ 37 + 1000) (hl : 1 ≤ ms.length ∧ ms.length ≤ 8) (dr : Dr H1 d n) (kp : Kp d H H1) (em : H1 rm = some (.lst (ms.map V.str)))
    (q : ∀ (p : Addr) (ts : List Tri) (H' : Hp), H p = none → ms.length = ts.length + 1 → (∀ t ∈ ts, TriOk t) → Dr H' d (n + 28) → Kp d H H' → SecAt H' p nm ms ts → D.rt (.ref p) H') : tEndS K D [some (.ref d), some (.str nm), y2, y3, some (.ref rm), y5, y6, y7, none] H1 := by
  refine ⟨_, rfl, _, rfl, rm, _, rfl, .inl ⟨.of em, fun tm ntm => ?_⟩⟩
  obtain ⟨s1, e1⟩ := nxo (o := .tup (ms.map V.str)) ntm
  have tmd := dr.ne ntm
  have dr1 := dr.same s1
  have kp1 := kp.trans (Same.kp s1)
  have em1 := s1 _ _ em
  generalize upd H1 tm (.tup (ms.map V.str)) = H2 at s1 e1 dr1 kp1 em1 ⊢
  refine ⟨_, rfl, rm, _, rfl, .inl (.of em1), _, _, rfl, rfl, _, rfl, ?_, ?_, fun L nL => ?_⟩
  · rw [List.length_map]; omega
  · rw [List.length_map]; omega
  have e0 : ((((ms.map V.str).length : Nat) : Int) - 1).toNat = ms.length - 1 := by rw [List.length_map]; omega
  rw [e0]
  have Ld := dr1.ne nL
  refine lc_it (walk_range (lo := 0) (n := ms.length - 1)) (fun k H' => ∃ (as : List Addr) (ts : List Tri), as.length = k ∧ TrisAt H' as ts ∧ (∀ t ∈ ts, TriOk t) ∧ Dr H' d (n + 4 * k) ∧ Kp d H2 H' ∧ H' L = some (.lst (as.map V.ref))) ⟨[], [], rfl, ⟨rfl, fun _ _ _ h => nomatch h⟩, (fun _ h => nomatch h), dr1.same (same_upd nL), Same.kp (same_upd nL), upd_same⟩ (fun _ _ _ _ => trivial) (fun k x Ha Hb hk pv y => ?_) fun H' pv => ?_
  · obtain ⟨as, ts, ha, ht, hok, dr', kp', eL⟩ := pv
    obtain ⟨rfl, rfl⟩ := y
    refine ⟨rfl, ?_⟩
    dsimp only [tYes]
    rw [if_pos rfl]
    refine ⟨_, rfl, d, _, rfl, dr', by omega, fun t p Hc okt np pd dr2 k2 ep => ⟨_, k2.lst dr' eL, ?_, as ++ [p], ts ++ [t], ?_, ?_, fun t' ht' => ?_, ?_, fun b o nb e => ?_, ?_⟩⟩
    · rw [List.length_map, ha]
      exact len20k (by omega)
    · rw [List.length_append, ha]
      rfl
    · refine ⟨(TrisAt.snoc (ht.kp dr' k2) ep).1, fun i b r h1 h2 => ?_⟩
      have eb := (TrisAt.snoc (ht.kp dr' k2) ep).2 i b r h1 h2
      rw [upd_ne (ne_of eb (k2.lst dr' eL) (by intro z; cases z))]
      exact eb
    · rcases List.mem_append.mp ht' with h | h
      · exact hok t' h
      · rw [List.mem_singleton.mp h]
        exact okt
    · exact (dr2.updL (k2.lst dr' eL) refs_nint).mono (by omega)
    · rw [upd_ne (ne_none e nL)]
      exact k2 b o nb (kp' b o nb e)
    · rw [upd_same, List.map_append]
      rfl
  · obtain ⟨as, ts, ha, ht, hok, dr', kp', eL⟩ := pv
    refine ⟨L, _, rfl, .inl ⟨.of eL, fun tb ntb => ⟨(by show 3 ≤ sizeLine; decide), fun p np => ?_⟩⟩⟩
    obtain ⟨s3, e3⟩ := nxo (o := .tup (as.map V.ref)) ntb
    generalize upd H' tb (.tup (as.map V.ref)) = H3 at s3 e3 np ⊢
    obtain ⟨s4, e4⟩ := nxo (o := .tup [.str nm, .ref tm, .ref tb]) np
    have dr4 := dr'.same (s3.trans s4)
    have kp4 := (kp1.trans kp').trans (Same.kp (s3.trans s4))
    have pd := (dr'.same s3).ne np
    refine q p ts _ ?_ ?_ hok (dr4.mono (by omega)) kp4 ⟨tm, tb, as, e4, s4 _ _ (s3 _ _ (kp'.tup dr1 e1)), s4 _ _ e3, (ht.same s3).same s4⟩
    · exact ((kp1.trans kp').trans (Same.kp s3)).none_of pd np
    · rw [← ht.1, ha]
      omega
theorem eqv_nilL (rs : List Str) : PyData.eqv (.list (rs.map .str)) (.list []) = decide (rs = []) := by
  cases rs with
  | nil => rfl
  | cons a r => rfl
section
variable {P : Program} {w : World} {K : PySem.W.Frag} {mg : Str → Option Value} {base : Heap} {f : Addr} {fd : FuncData}
theorem ok_sec {fN fS : Addr} {dN dS : FuncData} (F : FnD K "_law_section" sSec [] f fd) (gl : mg "len" = none) (gR : mg "range" = none) (gT : mg "tuple" = none) (FN : FnP K "_law_next" sNext fN dN) (gN : mg "_law_next" = some (.ref fN)) (GN : FnOk P w K mg base CX0 2 fN dN ["_law_draw", "_law_many"] spNext)
    (FS : FnD K "_law_stretch" sStr [] fS dS) (gS : mg "_law_stretch" = some (.ref fS)) (GS : FnOk P w K mg base CX0 3 fS dS ["_law_draw"] spStr) : FnOk P w K mg base CX0 4 f fd ["_law_draw", "_law_name", "_law_pool"] spSec := by
  have bN : Binds K dN ["_law_draw", "_law_many"] [] := FN.bindsN fun _ _ _ _ _ _ us hl => match us, hl with | [_, _], _ => rfl
  have bS : Binds K dS ["_law_draw"] [] := FS.bindsN fun _ _ _ _ _ _ us hl => match us, hl with | [_], _ => rfl
  refine F.ok scSec (fun vs H Q E h => ?_) (fun cdv A outer s H vs Q E hr h => ?_)
  · obtain ⟨d, pp, nm, ys, n, rfl, _⟩ := h
    rfl
  · obtain ⟨d, pp, nm, ys, n, rfl, dr, hn, ey, yne, yl, ysh, q⟩ := h
    have hr2 := hr.mono (show 2 ≤ 3 by decide)
    have hu65 : (A.deeper (envOfC "_law_section" (defScope sSec) s.heap.objs.size f cdv)).units + 65 < cLine := by
      have := hr.un
      omega
    refine ⟨_, PSs.nox (pss_cons (ps_set (i := 3) scSec.nd rfl (.inl rfl) (pe_ix ix_list (pe_lst (pa_cons (pe_op op_add pe_int (pe_call GN hr2 rfl gN FN.kp bN .nil pass0 (pa_cons (pv 0) (pa_cons pe_int pa_nil)))) (pa_cons (pe_op op_add pe_int (pe_call GN hr2 rfl gN FN.kp bN .nil pass0 (pa_cons (pv 0) (pa_cons pe_int pa_nil)))) (pa_cons pe_int pa_nil)))) (pe_call GN hr2 rfl gN FN.kp bN .nil pass0 (pa_cons (pv 0) (pa_cons pe_int pa_nil))) (fun _ _ => rfl))) (pss_cons (ps_asg (pe_tup (pa_cons (pe_lst (pa_cons (pe_ix ix_list (pv 2) (pe_call GN hr2 rfl gN FN.kp bN .nil pass0 (pa_cons (pv 0) (pa_cons (pe_callB call_len_seq rfl gl PySem.boot_len (pa_cons (pv 2) pa_nil)) pa_nil))) (fun _ _ => rfl)) pa_nil)) (pa_cons (pe_lst pa_nil) (pa_cons (pv 2) pa_nil)))) (pg_tup rfl (pgs_cons (pg_name (i := 4) scSec.nd rfl (.inr rfl)) (pgs_cons (pg_name (i := 5) scSec.nd rfl (.inr rfl)) (pgs_cons (pg_name (i := 6) scSec.nd rfl (.inl rfl)) pgs_nil))))) (pss_cons (ps_while PassesOwn.never (PW.pt (pw_and (pt_cmpR op_lt (pe_callB call_len_seq rfl gl PySem.boot_len (pa_cons (pv 4) pa_nil)) (pv 3) (nomark _)) (pw_and1 (pt_cmpR (op_neD hr.units) (pv 6) (pe_lst pa_nil) (nomark _))))) (pss_cons (ps_setLc (i := 6) (own := [("_law_one", 7)]) (g := gName 7) (tt := tAnd (tTest (tOp rNe (tVar 7) (tOp (rIxL K) (tVar 4) (tUn (rU fun i => .int (-i)) (tC (.int 1)))))) (tTest (tOp (rNotInD K) (tTup (tCons (tOp (rIxL K) (tVar 4) (tUn (rU fun i => .int (-i)) (tC (.int 1)))) (tCons (tVar 7) tNil))) (tVar 5)))) (te := tVar 7) rfl scSec.nd rfl rfl (sw_true rfl rfl rfl (by decide +kernel)) (pi_list (pv 2)) (blkOk_by (N := nSec) (sc := defScope sSec) (by decide +kernel)) (fun _ _ _ _ _ => pg_name (i := 7) scSec.nd rfl (.inl rfl)) (fun _ _ _ _ _ => (pts_one (PW.pt (pw_and (pt_cmpR op_ne (pv 7) (pe_ix ix_list (pv 4) (pe_un un_neg pe_int) (fun _ _ => rfl)) (nomark _)) (pw_and1 (pt_cmpR (op_notInD hu65) (pe_tup (pa_cons (pe_ix ix_list (pv 4) (pe_un un_neg pe_int) (fun _ _ => rfl)) (pa_cons (pv 7) pa_nil))) (pv 5) rfl)))))) (fun _ _ _ _ _ => (pv 7))) (pss_one (ps_if (pt_cmpR (op_neD hr.units) (pv 6) (pe_lst pa_nil) (nomark _)) (pss_cons (ps_expr (pe_bm PySem.F.plainAttrs_list PySem.F.slot_list_append PySem.F.type_list_append mt_append (pv 4) (pa_cons (pe_ix ix_list (pv 6) (pe_call GN hr2 rfl gN FN.kp bN .nil pass0 (pa_cons (pv 0) (pa_cons (pe_callB call_len_seq rfl gl PySem.boot_len (pa_cons (pv 6) pa_nil)) pa_nil))) (fun _ _ => rfl)) pa_nil))) (pss_one (ps_set (i := 5) scSec.nd rfl (.inr rfl) (pe_op op_catS (pv 5) (pe_lst (pa_cons (pe_tup (pa_cons (pe_ix ix_list (pv 4) (pe_un un_neg pe_int) (fun _ _ => rfl)) (pa_cons (pe_ix ix_list (pv 4) (pe_un un_neg pe_int) (fun _ _ => rfl)) pa_nil))) (pa_cons (pe_tup (pa_cons (pe_ix ix_list (pv 4) (pe_un un_neg pe_int) (fun _ _ => rfl)) (pa_cons (pe_ix ix_list (pv 4) (pe_un un_neg pe_int) (fun _ _ => rfl)) pa_nil))) pa_nil))))))) pss_nil)))) (pss_one (ps_ret (pe_tup (pa_cons (pv 1) (pa_cons (pe_callTy call_tuple_of rfl gT (show bootBuiltins "tuple" = some (.type "tuple") by decide +kernel) (pa_cons (pv 4) pa_nil)) (pa_cons (pe_callTy call_tuple_of rfl gT (show bootBuiltins "tuple" = some (.type "tuple") by decide +kernel) (pa_cons (pe_lc (own := [("_law_k", 8)]) (g := gName 8) (tt := tYes) (te := tCall spStr [] E0 (tCons (tVar 0) tNil)) rfl scSec.nd (pi_range1 rfl gR (pa_cons (pe_op op_sub (pe_callB call_len_seq rfl gl PySem.boot_len (pa_cons (pv 4) pa_nil)) pe_int) pa_nil)) (blkOk_by (N := nSec) (sc := defScope sSec) (by decide +kernel)) (fun _ _ _ _ _ => pg_name (i := 8) scSec.nd rfl (.inl rfl)) (fun _ _ _ _ _ => pts_nil) (fun _ _ _ _ _ => (pe_call GS hr rfl gS FS.kp bS .nil pass0 (pa_cons (pv 0) pa_nil)))) pa_nil)) pa_nil))))))))), ?_⟩
    dsimp only [cxOf]
    refine ⟨_, rfl, d, 7, n, rfl, dr, by decide, by decide, by omega, fun v1 Ha p1 q1 dra ba => ?_⟩
    refine ⟨_, _, rfl, rfl, _, rfl, d, 3, _, rfl, dra, by decide, by decide, by omega, fun v2 Hb p2 q2 drb bb => ?_⟩
    refine ⟨_, _, rfl, rfl, (by show 3 ≤ sizeLine; decide), fun l1 k1 => ?_⟩
    obtain ⟨s1, e1⟩ := nxo (o := .lst [.int (2 + v1), .int (2 + v2), .int 8]) k1
    have drs := drb.same s1
    have kps : Kp d H (upd Hb l1 (.lst [.int (2 + v1), .int (2 + v2), .int 8])) := ba.kp.trans (bb.kp.trans (Same.kp s1))
    refine ⟨_, rfl, d, 3, _, rfl, drs, by decide, by decide, by omega, fun v3 Hc p3 q3 drc bc => ?_⟩
    obtain ⟨x, hx, hat⟩ := at_list (xs := [.int (2 + v1), .int (2 + v2), .int 8]) p3 q3
    have hz : ∃ z : Nat, x = .int z ∧ z ≤ 8 := by
      simp only [List.mem_cons, List.not_mem_nil, or_false] at hx
      rcases hx with e | e | e
      · exact ⟨(2 + v1).toNat, by rw [e, Int.toNat_of_nonneg (by omega)], by omega⟩
      · exact ⟨(2 + v2).toNat, by rw [e, Int.toNat_of_nonneg (by omega)], by omega⟩
      · exact ⟨8, e, by decide⟩
    obtain ⟨z, rfl, hz8⟩ := hz
    have kpc := kps.trans bc.kp
    refine ⟨l1, _, _, _, rfl, rfl, .of (bc.kp.lst drs e1), hat, ?_⟩
    clear hat hx p3 q3 bc drs kps s1 e1 k1 ba bb dra drb
    refine gName_go ?_
    try dsimp only
    -- the first mark
    have ec := kpc.lst dr ey
    have yp : 0 < ys.length := List.length_pos_iff.mpr yne
    refine ⟨_, rfl, _, rfl, _, rfl, pp, _, rfl, .inl (.of ec), d, _, _, rfl, drc, by rw [List.length_map]; omega, by rw [List.length_map]; omega, by omega, fun v4 Hd p4 q4 drd bd => ?_⟩
    obtain ⟨x, hx, hat⟩ := at_list (xs := ys.map V.str) p4 q4
    obtain ⟨y0, hy0, rfl⟩ := List.mem_map.mp hx
    have kpd := kpc.trans bd.kp
    have ed := bd.kp.lst drc ec
    refine ⟨pp, _, _, _, rfl, rfl, .of ed, hat, (by show 1 ≤ sizeLine; decide), fun rm nrm => ⟨Nat.zero_le _, fun wa nwa => ⟨_, rfl, (by show 3 ≤ sizeLine; decide), fun tp ntp => ?_⟩⟩⟩
    clear hat hx p4 q4
    obtain ⟨s2, e2⟩ := nxo (o := .lst [.str y0]) nrm
    generalize upd Hd rm (.lst [.str y0]) = H2 at s2 e2 nwa ntp ⊢
    obtain ⟨s3, e3⟩ := nxo (o := .lst []) nwa
    generalize upd H2 wa (.lst []) = H3 at s3 e3 ntp ⊢
    obtain ⟨s4, e4⟩ := nxo (o := .tup [.ref rm, .ref wa, .ref pp]) ntp
    generalize upd H3 tp (.tup [.ref rm, .ref wa, .ref pp]) = H4 at s4 e4 ⊢
    have sd := s2.trans (s3.trans s4)
    have rmd := drd.ne nrm
    have nrmH : H rm = none := kpd.none_of rmd nrm
    have rmpp : pp ≠ rm := ne_none ed nrm
    refine ⟨tp, _, rfl, .of e4, rfl, _, _, rfl, _, _, rfl, _, _, rfl, rfl, ?_⟩
    try dsimp only
    refine while_by (fun σ H' => ∃ (ms : List Str) (l : Str) (wa ra : Addr) (ts : List Addr) (ws : List (Str × Str)) (rs : List Str), σ = [some (.ref d), some (.str nm), some (.ref pp), some (.int (z : Nat)), some (.ref rm), some (.ref wa), some (.ref ra), none, none] ∧ (ms ++ [l]).length ≤ 8 ∧ (∀ y ∈ ms ++ [l], Sh 8 y) ∧
        H' rm = some (.lst ((ms ++ [l]).map V.str)) ∧ H' wa = some (.lst (ts.map V.ref)) ∧ PairsAt H' ts ws ∧ (∀ t ∈ ws, Sh 8 t.1 ∧ Sh 8 t.2) ∧ ts.length ≤ 2 * ms.length ∧ ra ≠ rm ∧ H' ra = some (.lst (rs.map V.str)) ∧ (∀ y ∈ rs, y ∈ ys) ∧ rs.length ≤ 30 ∧ Dr H' d (n + 4 + ms.length) ∧ Kp d H H')
      (fun σ H' => 2 * (9 - lenAt H' rm) + restAt σ H')
      ⟨[], y0, wa, pp, [], [], ys, rfl, (by show 1 ≤ 8; decide), (fun y hy => by rw [List.nil_append, List.mem_singleton] at hy; rw [hy]; exact ysh y0 hy0), s4 _ _ (s3 _ _ e2), s4 _ _ e3, ⟨rfl, fun _ _ _ h => nomatch h⟩, (fun _ h => nomatch h), Nat.le_refl _, rmpp, sd _ _ ed, (fun y h => h), yl, drd.same sd, kpd.trans (Same.kp sd)⟩ (fun σ H' pv => ?_) (fun σ H' Q1 Q2 mono h => ?_)
    · obtain ⟨ms, l, wa, ra, ts, ws, rs, rfl, hl, hsh, em, ew, pw, wsh, tl', rne, er, hrs, hrl, dr1, kp1⟩ := pv
      have ep := kp1.lst dr ey
      have lsh := hsh l (by simp)
      have fin : ∀ H1, Same H' H1 → tEndS K { nx := fun _ H' => Q V.non H', rt := Q } [some (.ref d), some (.str nm), some (.ref pp), some (.int (z : Nat)), some (.ref rm), some (.ref wa), some (.ref ra), none, none] H1 := fun H1 s1 =>
        end_sec (n := n + 4 + ms.length) (by rw [List.length_append] at hl; simp at hl; omega) ⟨by rw [List.length_append]; simp, hl⟩ (dr1.same s1) (kp1.trans (Same.kp s1)) (s1 _ _ em) fun p ts H2 np e hok d2 k2 sa => q p (ms ++ [l]) ts H2 np e hl hsh hok (d2.mono (by rw [List.length_append] at hl; simp at hl; omega)) k2 sa
      refine ⟨_, rfl, rm, _, rfl, .inl (.of em), _, rfl, _, _, rfl, rfl, _, rfl, ite2 (fun hlt => ?_) (fun hge => iteF (fin H' (Same.refl _)))⟩
      have hlt' : (ms ++ [l]).length < z := by
        rw [List.length_map] at hlt
        have := of_decide_eq_true hlt
        omega
      clear hlt
      refine ⟨_, rfl, Nat.zero_le _, fun e ne => ?_⟩
      obtain ⟨se, ee⟩ := nxo (o := .lst []) ne
      have rasc : ∀ rs : List Str, (∀ y ∈ rs, y ∈ ys) → ∀ y ∈ rs, ∀ c ∈ y.cps.toList, c < 128 := fun rs h y hy => (ysh y (h y hy)).1
      refine ⟨_, .list [], dp_strs rs (se _ _ er), .lst (.of ee) .nil, shp_strs (rasc rs hrs), rfl, _, rfl, ?_⟩
      rw [eqv_nilL]
      generalize upd H' e (.lst []) = H1 at se ee ⊢
      refine ite2 (fun hne => ?_) (fun hem => fin H1 se)
      have rsne : rs ≠ [] := fun h => by
        rw [h] at hne
        exact absurd hne (by decide)
      -- a turn
      refine asg_go (lc_next (ms := ms) (l := l) rfl rfl rfl (Nat.lt_of_sub_eq_succ rfl) (se _ _ ep) (se _ _ em) (se _ _ ew) (pw.same se) yl ysh lsh wsh fun H2 ra' rs' s2 nra hrs' hrl' era => gName_go ?_)
      have s12 := se.trans s2
      have ra'm : ra' ≠ rm := (ne_none (se _ _ em) nra).symm
      refine ⟨_, rfl, Nat.zero_le _, fun e2 ne2 => ?_⟩
      obtain ⟨se2, ee2⟩ := nxo (o := .lst []) ne2
      refine ⟨_, .list [], dp_strs rs' (se2 _ _ era), .lst (.of ee2) .nil, shp_strs (rasc rs' hrs'), rfl, _, rfl, ?_⟩
      rw [eqv_nilL]
      generalize upd H2 e2 (.lst []) = H3 at se2 ee2 ⊢
      have s13 := s12.trans se2
      have dr3 := dr1.same s13
      have muO : restAt [some (.ref d), some (.str nm), some (.ref pp), some (.int (z : Nat)), some (.ref rm), some (.ref wa), some (.ref ra), none, none] H' = 1 := by
        show min 1 (lenAt H' ra) = 1
        rw [lenAt_of er, List.length_map]
        have := List.length_pos_iff.mpr rsne
        omega
      refine ite2 (fun hne2 => ?_) (fun hem2 => ?_)
      · have rs'ne : rs' ≠ [] := fun h => by
          rw [h] at hne2
          exact absurd hne2 (by decide)
        have rp : 0 < rs'.length := List.length_pos_iff.mpr rs'ne
        refine ⟨_, rfl, .inl ⟨rfl, _, .of (s13 _ _ em)⟩, _, rfl, _, rfl, _, rfl, ra', _, rfl, .inl (.of (se2 _ _ era)), d, _, _, rfl, dr3, by rw [List.length_map]; omega, by rw [List.length_map]; omega, by rw [List.length_append] at hl; simp at hl; omega, fun v Hw p0 q0 drw bw => ?_⟩
        obtain ⟨x, hx, hat⟩ := at_list (xs := rs'.map V.str) p0 q0
        obtain ⟨y, hy, rfl⟩ := List.mem_map.mp hx
        have ysh' := ysh y (hrs' y hy)
        have emw := bw.kp.lst dr3 (s13 _ _ em)
        have eww := bw.kp.lst dr3 (s13 _ _ ew)
        have pww := (pw.same s13).kp dr3 bw.kp
        have eraw := bw.kp.lst dr3 (se2 _ _ era)
        refine ⟨ra', _, _, _, rfl, rfl, .of eraw, hat, rm, _, _, rfl, rfl, emw, ?_, ?_⟩
        · rw [List.length_map]
          exact len20k (by omega)
        have wam : wa ≠ rm := fun h => by
          rw [h, emw] at eww
          have e5 : (ms ++ [l]).map V.str = ts.map V.ref := HO.lst.inj (Option.some.inj eww)
          have hm : V.str l ∈ ts.map V.ref := by
            rw [← e5]
            simp
          obtain ⟨t, _, et⟩ := List.mem_map.mp hm
          cases et
        have drx := drw.updL (o := .lst ((ms ++ [l]).map V.str ++ [.str y])) emw strs_nint
        have emx : (upd Hw rm (.lst ((ms ++ [l]).map V.str ++ [.str y]))) rm = some (.lst ((ms ++ [l] ++ [y]).map V.str)) := by
          rw [upd_same, List.map_append (l₁ := ms ++ [l])]
          rfl
        have ewx : (upd Hw rm (.lst ((ms ++ [l]).map V.str ++ [.str y]))) wa = some (.lst (ts.map V.ref)) := by
          rw [upd_ne wam]
          exact eww
        have pwx := pww.updL (o := .lst ((ms ++ [l]).map V.str ++ [.str y])) emw
        have erx : (upd Hw rm (.lst ((ms ++ [l]).map V.str ++ [.str y]))) ra' = some (.lst (rs'.map V.str)) := by
          rw [upd_ne ra'm]
          exact eraw
        have kpx : Kp d H (upd Hw rm (.lst ((ms ++ [l]).map V.str ++ [.str y]))) := fun b o nb e => by
          rw [upd_ne (ne_none e nrmH)]
          exact bw.kp b o nb (s13 _ _ (kp1 b o nb e))
        generalize upd Hw rm (.lst ((ms ++ [l]).map V.str ++ [.str y])) = Hx at drx emx ewx pwx erx kpx ⊢
        have a1 : atI ((ms ++ [l] ++ [y]).map V.str) (-1) = some (.str y) := by
          rw [List.map_append]
          exact atI_last _ _
        have a2 : atI ((ms ++ [l] ++ [y]).map V.str) (-2) = some (.str l) := by
          rw [List.map_append, List.map_append]
          exact atI_last2 _ _ _
        refine ⟨_, rfl, _, rfl, _, rfl, rm, _, _, _, rfl, rfl, .of emx, a2, _, rfl, _, rfl, rm, _, _, _, rfl, rfl, .of emx, a1, (by show 2 ≤ sizeLine; decide), fun t1 nt1 => ?_⟩
        obtain ⟨u1, w1⟩ := nxo (o := .tup [.str l, .str y]) nt1
        generalize upd Hx t1 (.tup [.str l, .str y]) = Hy at u1 w1 ⊢
        refine ⟨_, rfl, _, rfl, rm, _, _, _, rfl, rfl, .of (u1 _ _ emx), a1, _, rfl, _, rfl, rm, _, _, _, rfl, rfl, .of (u1 _ _ emx), a2, (by show 2 ≤ sizeLine; decide), fun t2 nt2 => ⟨(by show 2 ≤ sizeLine; decide), fun l2 nl2 => ?_⟩⟩
        obtain ⟨u2, w2⟩ := nxo (o := .tup [.str y, .str l]) nt2
        generalize upd Hy t2 (.tup [.str y, .str l]) = Hz at u2 w2 nl2 ⊢
        obtain ⟨u3, w3⟩ := nxo (o := .lst [.ref t1, .ref t2]) nl2
        generalize upd Hz l2 (.lst [.ref t1, .ref t2]) = Hv at u3 w3 ⊢
        have u13 := u1.trans (u2.trans u3)
        refine ⟨wa, l2, _, _, rfl, rfl, .of (u13 _ _ ewx), .of w3, ?_, fun wa' nwa' => ?_⟩
        · rw [List.length_map]
          exact Nat.le_of_lt (len20k (by rw [List.length_append] at hl; simp at hl; show ts.length + 2 ≤ _; omega))
        obtain ⟨u4, w4⟩ := nxo (o := .lst (ts.map V.ref ++ [.ref t1, .ref t2])) nwa'
        have u14 := u13.trans u4
        refine ⟨⟨ms ++ [l], y, wa', ra', ts ++ [t1] ++ [t2], ws ++ [(l, y)] ++ [(y, l)], rs', rfl, ?_, ?_, u14 _ _ emx, ?_, ?_, ?_, ?_, ra'm, u14 _ _ erx, hrs', hrl', (drx.same u14).mono ?_, kpx.trans (Same.kp u14)⟩, ?_⟩
        · rw [List.length_append]
          show (ms ++ [l]).length + 1 ≤ 8
          omega
        · intro y' hy'
          rcases List.mem_append.mp hy' with h | h
          · exact hsh y' h
          · rw [List.mem_singleton.mp h]
            exact ysh'
        · rw [w4, List.map_append, List.map_append, List.append_assoc]
          rfl
        · exact PairsAt.snoc (PairsAt.snoc ((pwx.same u13).same u4) (u4 _ _ (u3 _ _ (u2 _ _ w1)))) (u4 _ _ (u3 _ _ w2))
        · intro t ht
          rcases List.mem_append.mp ht with h | h
          · rcases List.mem_append.mp h with h | h
            · exact wsh t h
            · rw [List.mem_singleton.mp h]
              exact ⟨lsh, ysh'⟩
          · rw [List.mem_singleton.mp h]
            exact ⟨ysh', lsh⟩
        · simp only [List.length_append, List.length_cons, List.length_nil]
          omega
        · rw [List.length_append]
          show _ ≤ n + 4 + (ms.length + 1)
          omega
        · have r1 : restAt [some (.ref d), some (.str nm), some (.ref pp), some (.int (z : Nat)), some (.ref rm), some (.ref wa'), some (.ref ra'), none, none] (upd Hv wa' (.lst (ts.map V.ref ++ [.ref t1, .ref t2]))) ≤ 1 := by
            show min 1 _ ≤ 1
            omega
          have goal : 2 * (9 - lenAt (upd Hv wa' (.lst (ts.map V.ref ++ [.ref t1, .ref t2]))) rm) + restAt [some (.ref d), some (.str nm), some (.ref pp), some (.int (z : Nat)), some (.ref rm), some (.ref wa'), some (.ref ra'), none, none] (upd Hv wa' (.lst (ts.map V.ref ++ [.ref t1, .ref t2]))) < 2 * (9 - lenAt H' rm) + restAt [some (.ref d), some (.str nm), some (.ref pp), some (.int (z : Nat)), some (.ref rm), some (.ref wa), some (.ref ra), none, none] H' := by
            rw [muO, lenAt_of (u14 _ _ emx), lenAt_of em, List.length_map, List.length_map]
            have l3 : (ms ++ [l] ++ [y]).length = (ms ++ [l]).length + 1 := by simp
            rw [l3]
            have : (ms ++ [l]).length < 8 := by omega
            omega
          exact goal
      · have rs'e : rs' = [] := by
          by_cases h : rs' = []
          · exact h
          · exact absurd (by rw [decide_eq_false h]; rfl) hem2
        subst rs'e
        refine ⟨⟨ms, l, wa, ra', ts, ws, [], rfl, hl, hsh, s13 _ _ em, s13 _ _ ew, pw.same s13, wsh, tl', ra'm, se2 _ _ era, (fun _ h => nomatch h), Nat.zero_le _, dr3, kp1.trans (Same.kp s13)⟩, ?_⟩
        have r0 : restAt [some (.ref d), some (.str nm), some (.ref pp), some (.int (z : Nat)), some (.ref rm), some (.ref wa), some (.ref ra'), none, none] H3 = 0 := by
          show min 1 (lenAt H3 ra') = 0
          rw [lenAt_of (se2 _ _ era)]
          rfl
        have goal : 2 * (9 - lenAt H3 rm) + restAt [some (.ref d), some (.str nm), some (.ref pp), some (.int (z : Nat)), some (.ref rm), some (.ref wa), some (.ref ra'), none, none] H3 < 2 * (9 - lenAt H' rm) + restAt [some (.ref d), some (.str nm), some (.ref pp), some (.int (z : Nat)), some (.ref rm), some (.ref wa), some (.ref ra), none, none] H' := by
          rw [muO, r0, lenAt_of (s13 _ _ em), lenAt_of em]
          omega
        exact goal
    · obtain ⟨v, e, a, xs, h1, h2, h3⟩ := h
      refine ⟨v, e, a, xs, h1, h2, ?_⟩
      obtain ⟨v2, e2, i, j, h4, h5, b, h6, h7⟩ := h3
      refine ⟨v2, e2, i, j, h4, h5, b, h6, ?_⟩
      by_cases hb : b = true
      · rw [if_pos hb] at h7 ⊢
        obtain ⟨v3, e3, h8, h9⟩ := h7
        refine ⟨v3, e3, h8, fun p np => ?_⟩
        obtain ⟨d1, d2, g1, g2, g3, g4, b2, g5, g6⟩ := h9 p np
        exact ⟨d1, d2, g1, g2, g3, g4, b2, g5, mono _ _ g6⟩
      · rw [if_neg hb] at h7 ⊢
        exact mono _ _ h7
end
end Pb

namespace Pb
open PySem PySem.Spec PyProof.Rows L2 TL
/-! ### steps and measures -/
abbrev Stp := Int × Bool
def stpV (t : Stp) : List V := [.int t.1, .bl t.2]
def stepsL (i j : Int) : List Stp := if i < j then (List.range (j - i).toNat).map fun k => (i + (k : Nat), true) else (List.range (i - j).toNat).map fun k => (i - 1 - (k : Nat), false)
def StpsAt (H : Hp) (as : List Addr) (ts : List Stp) : Prop := as.length = ts.length ∧ ∀ (i : Nat) (a : Addr) (t : Stp), as[i]? = some a → ts[i]? = some t → H a = some (.tup (stpV t))
theorem StpsAt.same {H H' : Hp} {as : List Addr} {ts : List Stp} (h : StpsAt H as ts) (s : Same H H') : StpsAt H' as ts := ⟨h.1, fun i a t h1 h2 => s _ _ (h.2 i a t h1 h2)⟩
theorem StpsAt.updL {H : Hp} {as : List Addr} {ws : List Stp} {r : Addr} {xs : List V} {o : HO} (h : StpsAt H as ws) (e : H r = some (.lst xs)) : StpsAt (upd H r o) as ws := ⟨h.1, fun i a t h1 h2 => by
  have ea := h.2 i a t h1 h2
  rw [upd_ne (ne_of ea e (by intro z; cases z))]
  exact ea⟩
theorem StpsAt.snoc {H : Hp} {as : List Addr} {ws : List Stp} {a : Addr} {t : Stp} (h : StpsAt H as ws) (e : H a = some (.tup (stpV t))) : StpsAt H (as ++ [a]) (ws ++ [t]) := by
  obtain ⟨hl, hr⟩ := h
  refine ⟨by rw [List.length_append, List.length_append, hl]; rfl, fun i b r h1 h2 => ?_⟩
  rw [List.getElem?_append] at h1 h2
  rw [hl] at h1
  by_cases hi : i < ws.length
  · rw [if_pos hi] at h1 h2
    exact hr i b r h1 h2
  · rw [if_neg hi] at h1 h2
    cases hk : i - ws.length with
    | zero =>
      rw [hk] at h1 h2
      cases h1
      cases h2
      exact e
    | succ k =>
      rw [hk] at h1
      cases h1
def LegAt (H : Hp) (l : Addr) (i j : Int) : Prop := (∃ nm : Str, H l = some (.tup [.str nm, .int i, .int j])) ∧ 0 ≤ i ∧ i ≤ 7 ∧ 0 ≤ j ∧ j ≤ 7
theorem LegAt.same {H H' : Hp} {l : Addr} {i j : Int} (h : LegAt H l i j) (s : Same H H') : LegAt H' l i j := by
  obtain ⟨⟨nm, e⟩, r⟩ := h
  exact ⟨⟨nm, s _ _ e⟩, r⟩
def spSteps : Sp := fun vs H Q _ => ∃ (l : Addr) (i j : Int), vs = [.ref l] ∧ LegAt H l i j ∧ i ≠ j ∧ ∀ (H' : Hp) (r : Addr) (as : List Addr), Same H H' → H r = none → H' r = some (.lst (as.map V.ref)) → StpsAt H' as (stepsL i j) → Q (.ref r) H'
abbrev sSt : Stmt := top 11
abbrev nSt : List Str := ["_law_leg", "_law_least", "_law_most", "_law_number"]
theorem scSt : FnScope nSt ["_law_leg"] (defScope sSt) := ⟨rfl, rfl, rfl, by decide +kernel, rfl, by decide +kernel, by decide +kernel⟩
/-- a comprehension over a range, of steps -/
theorem lc_stp {te : TE} {i c : Nat} {lo : Int} {σ : L2.St} {H1 : Hp} {Q : VK} {f : Nat → Stp} (hi : i < σ.length) (hc : c ≤ 1000)
    (step : ∀ (k : Nat) (H' : Hp) (Q' : VK), k < c → Same H1 H' → (∀ a H'', H' a = none → Same H' H'' → H'' a = some (.tup (stpV (f k))) → Q' (.ref a) H'') → te ((wipe σ [i]).set i (some (.int (lo + (k : Nat))))) H' Q')
    (q : ∀ (D : Addr) (H' : Hp) (as : List Addr), H1 D = none → Same H1 H' → H' D = some (.lst (as.map V.ref)) → StpsAt H' as ((List.range c).map f) → Q (.ref D) H') :
    ∀ D, H1 D = none → ∃ W : Nat → Nat → Hp → Prop, (∃ m, W 0 m (upd H1 D (.lst []))) ∧ ∀ j m H, W j m H →
      ((Itr lo c).stop j H ∧ Q (.ref D) H) ∨ ((Itr lo c).go j H ∧ ∃ Nx : Hp → Prop, (∀ H', Nx H' → ∃ m', m' < m ∧ W (j + 1) m' H') ∧ ∀ x H', (Itr lo c).yld j H x H' → gName i x (wipe σ [i]) H' fun σ2 H2 => wipe σ2 [i] = wipe σ [i] ∧ tYes σ2 H2 fun b H3 =>
        if b = true then te σ2 H3 fun y H4 => ∃ acc, H4 D = some (.lst acc) ∧ acc.length < sizeLine ∧ Nx (upd H4 D (.lst (acc ++ [y]))) else Nx H3) := by
  intro D nD
  refine lc_it walk_range (fun m H' => Same H1 H' ∧ ∃ as : List Addr, as.length = m ∧ H' D = some (.lst (as.map V.ref)) ∧ StpsAt H' as ((List.range m).map f)) ⟨same_upd nD, [], rfl, upd_same, rfl, fun _ _ _ h => nomatch h⟩ (fun _ _ _ _ => trivial) (fun m x Ha Hb hm pv y => ?_) fun H' pv => ?_
  · obtain ⟨sm, as, al, eD, st⟩ := pv
    obtain ⟨rfl, rfl⟩ := y
    refine ⟨?_, ?_⟩
    · show (((σ.set i none).set i _).set i none) = σ.set i none
      rw [List.set_set, List.set_set]
    · dsimp only [tYes]
      rw [if_pos rfl]
      refine step m Hb _ hm sm fun a Hc na sc ea => ⟨_, sc _ _ eD, ?_, fun b o e => ?_, as ++ [a], ?_, ?_, ?_⟩
      · rw [List.length_map, al]
        exact len20k (by omega)
      · rw [upd_ne (ne_none e nD)]
        exact sc _ _ (sm _ _ e)
      · rw [List.length_append, al]
        rfl
      · rw [upd_same, List.map_append]
        rfl
      · rw [List.range_succ, List.map_append]
        exact ((st.same sc).snoc ea).updL (sc _ _ eD)
  · obtain ⟨sm, as, al, eD, st⟩ := pv
    exact q D H' as nD sm eD st
section
variable {P : Program} {w : World} {K : PySem.W.Frag} {mg : Str → Option Value} {base : Heap} {f : Addr} {fd : FuncData}
theorem ok_lsteps (F : FnD K "_law_steps" sSt [] f fd) (gm : mg "min" = none) (gx : mg "max" = none) (gr : mg "range" = none) : FnOk P w K mg base CX0 1 f fd ["_law_leg"] spSteps := by
  refine F.ok scSt (fun vs H Q E h => ?_) (fun cdv A outer s H vs Q E hr h => ?_)
  · obtain ⟨l, i, j, rfl, _⟩ := h
    rfl
  · obtain ⟨l, i, j, rfl, ⟨⟨nm, el⟩, i0, i7, j0, j7⟩, hij, q⟩ := h
    refine ⟨_, PSs.nox (pss_cons (ps_asg (pe_tup (pa_cons (pe_callB (call_min2 rfl) rfl gm boot_min (pa_cons (pe_ix ix_tup (pv 0) pe_int (fun _ _ => rfl)) (pa_cons (pe_ix ix_tup (pv 0) pe_int (fun _ _ => rfl)) pa_nil))) (pa_cons (pe_callB (call_max2 rfl) rfl gx (show bootBuiltins "max" = some (.builtin "max") by decide +kernel) (pa_cons (pe_ix ix_tup (pv 0) pe_int (fun _ _ => rfl)) (pa_cons (pe_ix ix_tup (pv 0) pe_int (fun _ _ => rfl)) pa_nil))) pa_nil))) (pg_tup rfl (pgs_cons (pg_name (i := 1) scSt.nd rfl (.inl rfl)) (pgs_cons (pg_name (i := 2) scSt.nd rfl (.inr rfl)) pgs_nil)))) (pss_cons (ps_if (pt_cmpR op_eq (pv 1) (pe_ix ix_tup (pv 0) pe_int (fun _ _ => rfl)) (nomark _)) (pss_one (ps_ret (pe_lc (own := [("_law_number", 3)]) (g := gName 3) (tt := tYes) (te := tTup (tCons (tVar 3) (tCons (tC (.bl true)) tNil))) rfl scSt.nd (pi_range2 rfl gr (pa_cons (pv 1) (pa_cons (pv 2) pa_nil))) (blkOk_by (N := nSt) (sc := defScope sSt) (by decide +kernel)) (fun _ _ _ _ _ => pg_name (i := 3) scSt.nd rfl (.inl rfl)) (fun _ _ _ _ _ => pts_nil) (fun _ _ _ _ _ => (pe_tup (pa_cons (pv 3) (pa_cons pe_bl pa_nil))))))) pss_nil) (pss_one (ps_ret (pe_lc (own := [("_law_number", 3)]) (g := gName 3) (tt := tYes) (te := tTup (tCons (tOp (rI0 fun i j => .int (i - j)) (tOp (rI0 fun i j => .int (i - j)) (tVar 2) (tC (.int 1))) (tVar 3)) (tCons (tC (.bl false)) tNil))) rfl scSt.nd (pi_range1 rfl gr (pa_cons (pe_op op_sub (pv 2) (pv 1)) pa_nil)) (blkOk_by (N := nSt) (sc := defScope sSt) (by decide +kernel)) (fun _ _ _ _ _ => pg_name (i := 3) scSt.nd rfl (.inl rfl)) (fun _ _ _ _ _ => pts_nil) (fun _ _ _ _ _ => (pe_tup (pa_cons (pe_op op_sub (pe_op op_sub (pv 2) pe_int) (pv 3)) (pa_cons pe_bl pa_nil))))))))), ?_⟩
    dsimp only [cxOf]
    refine ⟨_, rfl, l, _, _, _, rfl, rfl, .of el, rfl, _, rfl, l, _, _, _, rfl, rfl, .of el, rfl, _, _, rfl, _, rfl, l, _, _, _, rfl, rfl, .of el, rfl, _, rfl, l, _, _, _, rfl, rfl, .of el, rfl, _, _, rfl, (by show 2 ≤ sizeLine; decide), fun tp ntp => ?_⟩
    obtain ⟨s1, e1⟩ := nxo (o := .tup [.int (if j < i then j else i), .int (if j > i then j else i)]) ntp
    refine ⟨tp, _, rfl, .of e1, rfl, _, _, rfl, _, _, rfl, rfl, ?_⟩
    try dsimp only
    generalize upd H tp (.tup [.int (if j < i then j else i), .int (if j > i then j else i)]) = H1 at s1 e1 ⊢
    refine ⟨_, rfl, _, rfl, l, _, _, _, rfl, rfl, .of (s1 _ _ el), rfl, rfl, _, rfl, ?_⟩
    by_cases hlt : i < j
    · have e2 : (if j < i then j else i) = i := if_neg (by omega)
      have e3 : (if j > i then j else i) = j := if_pos hlt
      rw [e2, e3, decide_eq_true rfl]
      refine iteT ⟨_, rfl, _, rfl, _, _, rfl, ⟨by omega, by omega, by omega, by omega⟩, ?_⟩
      refine lc_stp (te := tTup (tCons (tVar 3) (tCons (tC (.bl true)) tNil))) (i := 3) (f := fun k => (i + (k : Nat), true)) (Q := Q) (σ := [some (.ref l), some (.int i), some (.int j), none]) (Nat.lt_of_sub_eq_succ rfl) (by omega) (fun k H' Q' hk sm q' => ?_) fun D H' as nD sm eD st => ?_
      · refine ⟨_, rfl, (by show 2 ≤ sizeLine; decide), fun t nt => ?_⟩
        exact q' t _ nt (same_upd nt) upd_same
      · have : stepsL i j = (List.range (j - i).toNat).map fun k => (i + (k : Nat), true) := by
          unfold stepsL
          rw [if_pos hlt]
        exact q H' D as (s1.trans sm) (none_of s1 nD) eD (by rw [this]; exact st)
    · have e2 : (if j < i then j else i) = j := if_pos (by omega)
      have e3 : (if j > i then j else i) = i := if_neg (by omega)
      rw [e2, e3, decide_eq_false (fun z => hij (V.int.inj z).symm)]
      refine iteF ⟨_, rfl, _, rfl, _, _, rfl, rfl, _, rfl, by omega, by omega, ?_⟩
      refine lc_stp (te := tTup (tCons (tOp (rI0 fun i j => .int (i - j)) (tOp (rI0 fun i j => .int (i - j)) (tVar 2) (tC (.int 1))) (tVar 3)) (tCons (tC (.bl false)) tNil))) (i := 3) (f := fun k => (i - 1 - (k : Nat), false)) (Q := Q) (σ := [some (.ref l), some (.int j), some (.int i), none]) (Nat.lt_of_sub_eq_succ rfl) (by omega) (fun k H' Q' hk sm q' => ?_) fun D H' as nD sm eD st => ?_
      · refine ⟨_, rfl, _, _, rfl, rfl, _, rfl, _, _, rfl, rfl, (by show 2 ≤ sizeLine; decide), fun t nt => ?_⟩
        rw [Int.zero_add]
        exact q' t _ nt (same_upd nt) upd_same
      · have : stepsL i j = (List.range (i - j).toNat).map fun k => (i - 1 - (k : Nat), false) := by
          unfold stepsL
          rw [if_neg hlt]
        exact q H' D as (s1.trans sm) (none_of s1 nD) eD (by rw [this]; exact st)
end
end Pb

namespace Pb
open PySem PySem.Spec PyProof.Rows L2 TL
def loI (i j : Int) : Int := if j < i then j else i
def hiI (i j : Int) : Int := if j > i then j else i
def cutT {α : Type} (ts : List α) (i j : Int) : List α := (ts.drop (loI i j).toNat).take ((hiI i j).toNat - (loI i j).toNat)
def meas (ts : List Tri) (i j : Int) : Option Tri := if hiI i j > ts.length then none else
  some (if i < j then (((cutT ts i j).map fun t => t.1).sum, ((cutT ts i j).map fun t => t.2.1).sum, ((cutT ts i j).map fun t => t.2.2).sum) else (((cutT ts i j).map fun t => t.1).sum, ((cutT ts i j).map fun t => t.2.2).sum, ((cutT ts i j).map fun t => t.2.1).sum))
def MeasAt (H : Hp) (v : V) : Option Tri → Prop
  | none => v = .non
  | some t => ∃ a, v = .ref a ∧ H a = some (.tup (triV t))
theorem MeasAt.same {H H' : Hp} {v : V} {o : Option Tri} (h : MeasAt H v o) (s : Same H H') : MeasAt H' v o := by
  cases o with
  | none => exact h
  | some t =>
    obtain ⟨a, e, ea⟩ := h
    exact ⟨a, e, s _ _ ea⟩
def spMeas : Sp := fun vs H Q _ => ∃ (p l : Addr) (nm : Str) (ms : List Str) (ts : List Tri) (i j : Int), vs = [.ref p, .ref l] ∧ SecAt H p nm ms ts ∧ ms.length = ts.length + 1 ∧ ts.length ≤ 10 ∧ LegAt H l i j ∧ i ≠ j ∧ ∀ (H' : Hp) (v : V), Same H H' → MeasAt H' v (meas ts i j) → Q v H'
theorem TrisAt.cut {H : Hp} {as : List Addr} {ts : List Tri} (h : TrisAt H as ts) (i j : Int) : TrisAt H (cutT as i j) (cutT ts i j) := by
  refine ⟨?_, fun k a t h1 h2 => ?_⟩
  · unfold cutT
    rw [List.length_take, List.length_take, List.length_drop, List.length_drop, h.1]
  · unfold cutT at h1 h2
    rw [List.getElem?_take] at h1 h2
    by_cases hk : k < (hiI i j).toNat - (loI i j).toNat
    · rw [if_pos hk, List.getElem?_drop] at h1 h2
      exact h.2 _ a t h1 h2
    · rw [if_neg hk] at h1
      cases h1
theorem cutV_nat (xs : List V) {lo hi : Nat} (h : lo ≤ hi) (hl : hi ≤ xs.length) : cutV xs (some (lo : Int)) (some (hi : Int)) = (xs.drop lo).take (hi - lo) := by
  unfold cutV
  rw [HT.sIx_nat, HT.sIx_nat, Nat.min_eq_left hl, Nat.min_eq_left (Nat.le_trans h hl)]
/-- a column of rows -/
theorem lc_col {K : PySem.W.Frag} {σ : L2.St} {H : Hp} {Q : VK} {p : Addr} {as : List Addr} {ts : List Tri} {c : Int} {g : Tri → Int} (h4 : σ[4]? = some (some (.ref p))) (hi : 8 < σ.length) (ep : H p = some (.tup (as.map V.ref))) (ht : TrisAt H as ts) (hl : as.length ≤ 1000) (hc : ∀ t, atI (triV t) c = some (.int (g t)))
    (q : ∀ H' D, Same H H' → H' D = some (.lst ((ts.map g).map V.int)) → Q (.ref D) H') : tLc (iTup K (tVar 4)) (gName 8) tYes (tOp (rIxT K) (tVar 8) (tC (.int c))) [8] σ H Q := by
  refine ⟨_, h4, p, rfl, ⟨_, .of ep⟩, fun D nD => lc_it (walk_tup (K := K) (a := p) (xs := as.map V.ref)) (fun k H' => Same H H' ∧ H' D = some (.lst (((ts.take k).map g).map V.int))) ⟨same_upd nD, upd_same⟩ (fun _ H' _ pv => .of (pv.1 _ _ ep)) (fun k x Ha Hb hk pv y => ?_) fun H' pv => ?_⟩
  · obtain ⟨sm, eD⟩ := pv
    obtain ⟨rfl, gx⟩ := y
    rw [List.length_map] at hk
    rw [List.getElem?_map] at gx
    obtain ⟨a, ga, rfl⟩ := Option.map_eq_some_iff.mp gx
    have hk2 : k < ts.length := by rw [← ht.1]; exact hk
    have gt := List.getElem?_eq_getElem hk2
    have tk : ts.take (k + 1) = ts.take k ++ [ts[k]] := by
      rw [List.take_add_one, gt]
      rfl
    have ea := sm _ _ (ht.2 k a _ ga gt)
    generalize ts[k] = t at ea tk gt
    have gi : ∀ x, ((wipe σ [8]).set 8 (some x))[8]? = some (some x) := fun x => set_get (by rw [wipe_length]; exact hi)
    refine ⟨?_, ?_⟩
    · show (((σ.set 8 none).set 8 _).set 8 none) = σ.set 8 none
      rw [List.set_set, List.set_set]
    · dsimp only [tYes]
      rw [if_pos rfl]
      refine ⟨_, gi _, a, _, c, _, rfl, rfl, .of ea, hc t, _, eD, ?_, fun b o e => ?_, ?_⟩
      · rw [List.length_map, List.length_map, List.length_take]
        exact len20k (by omega)
      · rw [upd_ne (ne_none e nD)]
        exact sm _ _ e
      · rw [upd_same, tk, List.map_append, List.map_append]
        rfl
  · obtain ⟨sm, eD⟩ := pv
    rw [List.length_map, ht.1, List.take_length] at eD
    exact q _ _ sm eD
abbrev sDue : Stmt := top 12
abbrev nDue : List Str := ["_law_section_here", "_law_leg", "_law_least", "_law_most", "_law_rows", "_law_length", "_law_up", "_law_down", "_law_row"]
theorem scDue : FnScope nDue ["_law_section_here", "_law_leg"] (defScope sDue) := ⟨rfl, rfl, rfl, by decide +kernel, rfl, by decide +kernel, by decide +kernel⟩
theorem par3_go {i j l : Nat} {ta : TA} {D : Ends} {σ : L2.St} {H : Hp} (h : ta σ H fun vs H1 => ∃ u v w, vs = [u, v, w] ∧ D.nx (((σ.set i (some u)).set j (some v)).set l (some w)) H1) : tPar3 i j l ta D σ H := h
theorem cons_go {t : TE} {ts : TA} {σ : L2.St} {H : Hp} {Q : List V → Hp → Prop} (h : t σ H fun v H1 => ts σ H1 fun vs H2 => Q (v :: vs) H2) : tCons t ts σ H Q := h
theorem cB_go {r : List V → Hp → VK → Prop} {t : TA} {σ : L2.St} {H : Hp} {Q : VK} (h : t σ H fun xs H1 => r xs H1 Q) : tCB r t σ H Q := h
section
variable {P : Program} {w : World} {K : PySem.W.Frag} {mg : Str → Option Value} {base : Heap} {f : Addr} {fd : FuncData}
theorem ok_due (F : FnD K "_law_due" sDue [] f fd) (gm : mg "min" = none) (gx : mg "max" = none) (gl : mg "len" = none) (gs : mg "sum" = none) : FnOk P w K mg base CX0 1 f fd ["_law_section_here", "_law_leg"] spMeas := by
  refine F.ok scDue (fun vs H Q E h => ?_) (fun cdv A outer s H vs Q E hr h => ?_)
  · obtain ⟨p, l, nm, ms, ts, i, j, rfl, _⟩ := h
    rfl
  · obtain ⟨p, l, nm, ms, ts, i, j, rfl, ⟨a, b, as, ep, ea, eb, ht⟩, _, tl10, ⟨⟨nm2, el⟩, i0, i7, j0, j7⟩, _, q⟩ := h
    refine ⟨_, PSs.nox (pss_cons (ps_par (i := 2) (j := 3) rfl scDue.nd rfl rfl (by decide) rfl rfl (pa_cons (pe_callB (call_min2 rfl) rfl gm boot_min (pa_cons (pe_ix ix_tup (pv 1) pe_int (fun _ _ => rfl)) (pa_cons (pe_ix ix_tup (pv 1) pe_int (fun _ _ => rfl)) pa_nil))) (pa_cons (pe_callB (call_max2 rfl) rfl gx (show bootBuiltins "max" = some (.builtin "max") by decide +kernel) (pa_cons (pe_ix ix_tup (pv 1) pe_int (fun _ _ => rfl)) (pa_cons (pe_ix ix_tup (pv 1) pe_int (fun _ _ => rfl)) pa_nil))) pa_nil)) rfl) (pss_cons (ps_if (pt_cmpR op_gt (pv 3) (pe_callB call_len_seq rfl gl PySem.boot_len (pa_cons (pe_ix ix_tup (pv 0) pe_int (fun _ _ => rfl)) pa_nil)) (nomark _)) (pss_one (ps_ret pe_non)) pss_nil) (pss_cons (ps_set (i := 4) scDue.nd rfl (.inl rfl) (pe_slice sl_tupA (pe_ix ix_tup (pv 0) pe_int (fun _ _ => rfl)) (po_some (pv 2)) (po_some (pv 3)))) (pss_cons (ps_par3 (i := 5) (j := 6) (l := 7) rfl scDue.nd rfl rfl rfl (by decide) (by decide) (by decide) rfl rfl rfl (pa_cons (pe_callB (cr_sum rfl) rfl gs (show bootBuiltins "sum" = some (.builtin "sum") by decide +kernel) (pa_cons (pe_lc (own := [("_law_row", 8)]) (g := gName 8) (tt := tYes) (te := tOp (rIxT K) (tVar 8) (tC (.int 0))) rfl scDue.nd (pi_tup (pv 4)) (blkOk_by (N := nDue) (sc := defScope sDue) (by decide +kernel)) (fun _ _ _ _ _ => pg_name (i := 8) scDue.nd rfl (.inl rfl)) (fun _ _ _ _ _ => pts_nil) (fun _ _ _ _ _ => (pe_ix ix_tup (pv 8) pe_int (fun _ _ => rfl)))) pa_nil)) (pa_cons (pe_callB (cr_sum rfl) rfl gs (show bootBuiltins "sum" = some (.builtin "sum") by decide +kernel) (pa_cons (pe_lc (own := [("_law_row", 8)]) (g := gName 8) (tt := tYes) (te := tOp (rIxT K) (tVar 8) (tC (.int 1))) rfl scDue.nd (pi_tup (pv 4)) (blkOk_by (N := nDue) (sc := defScope sDue) (by decide +kernel)) (fun _ _ _ _ _ => pg_name (i := 8) scDue.nd rfl (.inl rfl)) (fun _ _ _ _ _ => pts_nil) (fun _ _ _ _ _ => (pe_ix ix_tup (pv 8) pe_int (fun _ _ => rfl)))) pa_nil)) (pa_cons (pe_callB (cr_sum rfl) rfl gs (show bootBuiltins "sum" = some (.builtin "sum") by decide +kernel) (pa_cons (pe_lc (own := [("_law_row", 8)]) (g := gName 8) (tt := tYes) (te := tOp (rIxT K) (tVar 8) (tC (.int 2))) rfl scDue.nd (pi_tup (pv 4)) (blkOk_by (N := nDue) (sc := defScope sDue) (by decide +kernel)) (fun _ _ _ _ _ => pg_name (i := 8) scDue.nd rfl (.inl rfl)) (fun _ _ _ _ _ => pts_nil) (fun _ _ _ _ _ => (pe_ix ix_tup (pv 8) pe_int (fun _ _ => rfl)))) pa_nil)) pa_nil))) rfl) (pss_one (ps_ret (pe_ifExp (pt_cmpR op_eq (pv 2) (pe_ix ix_tup (pv 1) pe_int (fun _ _ => rfl)) (nomark _)) (pe_tup (pa_cons (pv 5) (pa_cons (pv 6) (pa_cons (pv 7) pa_nil)))) (pe_tup (pa_cons (pv 5) (pa_cons (pv 7) (pa_cons (pv 6) pa_nil))))))))))), ?_⟩
    dsimp only [cxOf]
    refine ⟨_, rfl, l, _, _, _, rfl, rfl, .of el, rfl, _, rfl, l, _, _, _, rfl, rfl, .of el, rfl, _, _, rfl, _, rfl, l, _, _, _, rfl, rfl, .of el, rfl, _, rfl, l, _, _, _, rfl, rfl, .of el, rfl, _, _, rfl, _, _, rfl, ?_⟩
    have hlo : (if j < i then j else i) = loI i j := rfl
    have hhi : (if j > i then j else i) = hiI i j := rfl
    rw [hlo, hhi]
    have b0 : 0 ≤ loI i j ∧ loI i j ≤ hiI i j ∧ hiI i j ≤ 7 := by
      unfold loI hiI
      split <;> split <;> omega
    obtain ⟨lo, elo⟩ : ∃ n : Nat, loI i j = (n : Int) := ⟨_, (Int.toNat_of_nonneg b0.1).symm⟩
    obtain ⟨hi, ehi⟩ : ∃ n : Nat, hiI i j = (n : Int) := ⟨_, (Int.toNat_of_nonneg (by omega)).symm⟩
    have asl := ht.1
    refine ⟨_, rfl, _, rfl, p, _, _, _, rfl, rfl, .of ep, rfl, b, _, rfl, .inr (.of eb), _, _, rfl, rfl, _, rfl, ?_⟩
    rw [List.length_map, asl]
    by_cases hgt : (ts.length : Int) < hiI i j
    · rw [decide_eq_true hgt]
      refine iteT (q H .non (Same.refl _) ?_)
      have : meas ts i j = none := by
        unfold meas
        rw [if_pos hgt]
      rw [this]
      rfl
    · rw [decide_eq_false hgt]
      refine iteF ?_
      have hcut : ((as.map V.ref).drop lo).take (hi - lo) = (cutT as i j).map V.ref := by
        unfold cutT
        rw [elo, ehi, Int.toNat_natCast, Int.toNat_natCast, List.map_take, List.map_drop]
      have ct := ht.cut i j
      have hcl : (cutT as i j).length ≤ 1000 := by
        unfold cutT
        rw [List.length_take, List.length_drop]
        omega
      have rest : ∀ (H1 : Hp) (rr : Addr) (D : Ends), D.rt = Q → Same H H1 → H1 rr = some (.tup ((cutT as i j).map V.ref)) → (tSeq (tPar3 5 6 7 (tCons (tCB (rSum K) (tCons (tLc (iTup K (tVar 4)) (gName 8) tYes (tOp (rIxT K) (tVar 8) (tC (.int 0))) [8]) tNil)) (tCons (tCB (rSum K) (tCons (tLc (iTup K (tVar 4)) (gName 8) tYes (tOp (rIxT K) (tVar 8) (tC (.int 1))) [8]) tNil)) (tCons (tCB (rSum K) (tCons (tLc (iTup K (tVar 4)) (gName 8) tYes (tOp (rIxT K) (tVar 8) (tC (.int 2))) [8]) tNil)) tNil)))) (tRet (tIf (tTest (tOp rEq (tVar 2) (tOp (rIxT K) (tVar 1) (tC (.int 1))))) (tTup (tCons (tVar 5) (tCons (tVar 6) (tCons (tVar 7) tNil)))) (tTup (tCons (tVar 5) (tCons (tVar 7) (tCons (tVar 6) tNil))))))) D [some (.ref p), some (.ref l), some (.int (loI i j)), some (.int (hiI i j)), some (.ref rr), none, none, none, none] H1 := fun H1 rr D eD s1 er => by
        have c1 := ct.same s1
        refine par3_go (cons_go (cB_go (cons_go ?_)))
        refine lc_col (c := 0) (g := fun t => t.1) rfl (Nat.lt_of_sub_eq_succ rfl) er c1 hcl (fun t => rfl) fun H2 D2 s2 e2 => ⟨D2, _, rfl, .of e2, ?_⟩
        refine cons_go (cB_go (cons_go ?_))
        refine lc_col (c := 1) (g := fun t => t.2.1) rfl (Nat.lt_of_sub_eq_succ rfl) (s2 _ _ er) (c1.same s2) hcl (fun t => rfl) fun H3 D3 s3 e3 => ⟨D3, _, rfl, .of e3, ?_⟩
        refine cons_go (cB_go (cons_go ?_))
        refine lc_col (c := 2) (g := fun t => t.2.2) rfl (Nat.lt_of_sub_eq_succ rfl) (s3 _ _ (s2 _ _ er)) ((c1.same s2).same s3) hcl (fun t => rfl) fun H4 D4 s4 e4 => ⟨D4, _, rfl, .of e4, _, _, _, rfl, ?_⟩
        have s14 := s1.trans (s2.trans (s3.trans s4))
        refine ⟨_, rfl, _, rfl, l, _, _, _, rfl, rfl, .of (s14 _ _ el), rfl, rfl, _, rfl, ?_⟩
        have hm : meas ts i j = some (if i < j then (((cutT ts i j).map fun t => t.1).sum, ((cutT ts i j).map fun t => t.2.1).sum, ((cutT ts i j).map fun t => t.2.2).sum) else (((cutT ts i j).map fun t => t.1).sum, ((cutT ts i j).map fun t => t.2.2).sum, ((cutT ts i j).map fun t => t.2.1).sum)) := by
          unfold meas
          rw [if_neg hgt]
        by_cases hij : i < j
        · rw [if_pos hij] at hm
          have e5 : loI i j = i := by unfold loI; rw [if_neg (by omega)]
          rw [e5, decide_eq_true rfl]
          refine iteT ⟨_, rfl, _, rfl, _, rfl, (by show 3 ≤ sizeLine; decide), fun t nt => ?_⟩
          rw [eD]
          exact q _ _ (s14.trans (same_upd nt)) (by rw [hm]; exact ⟨t, rfl, upd_same⟩)
        · rw [if_neg hij] at hm
          by_cases hij2 : i = j
          · -- nothing between: all are nought
            subst hij2
            have e5 : loI i i = i := by unfold loI; rw [if_neg (by omega)]
            have e6 : cutT ts i i = [] := by
              unfold cutT hiI loI
              simp
            rw [e6] at hm ⊢
            rw [e5, decide_eq_true rfl]
            refine iteT ⟨_, rfl, _, rfl, _, rfl, (by show 3 ≤ sizeLine; decide), fun t nt => ?_⟩
            rw [eD]
            exact q _ _ (s14.trans (same_upd nt)) (by rw [hm]; exact ⟨t, rfl, upd_same⟩)
          · have e5 : loI i j = j := by unfold loI; rw [if_pos (by omega)]
            rw [e5, decide_eq_false (fun z => hij2 (V.int.inj z).symm)]
            refine iteF ⟨_, rfl, _, rfl, _, rfl, (by show 3 ≤ sizeLine; decide), fun t nt => ?_⟩
            rw [eD]
            exact q _ _ (s14.trans (same_upd nt)) (by rw [hm]; exact ⟨t, rfl, upd_same⟩)
      refine ⟨_, rfl, p, _, _, _, rfl, rfl, .of ep, rfl, _, rfl, _, rfl, _, rfl, _, rfl, b, _, rfl, .of eb, fun hwhole => ?_, fun hpart rr nrr => ?_⟩
      · have : (cutT as i j) = as := by
          rw [elo, ehi] at hwhole
          rw [HT.sIx_nat, HT.sIx_nat, List.length_map] at hwhole
          unfold cutT
          rw [elo, ehi, Int.toNat_natCast, Int.toNat_natCast]
          have h1 : lo = 0 := by omega
          have h2 : hi = as.length := by omega
          rw [h1, h2]
          simp
        exact rest H b _ rfl (Same.refl _) (by rw [this]; exact eb)
      · obtain ⟨sr, err⟩ := nxo (o := .tup (cutV (as.map V.ref) (some (loI i j)) (some (hiI i j)))) nrr
        refine rest _ rr _ rfl sr ?_
        rw [err, elo, ehi, cutV_nat _ (by omega) (by rw [List.length_map]; omega), hcut]
end
end Pb

namespace Pb
open PySem PySem.Spec PyProof.Rows L2 TL
/-! ### a leg in two parts, and all that is told of a leg -/
theorem sum_app (a b : List Int) : (a ++ b).sum = a.sum + b.sum := List.sum_append
theorem cut_join {α : Type} (ts : List α) {a b c : Nat} (h1 : a ≤ b) (h2 : b ≤ c) : (ts.drop a).take (b - a) ++ (ts.drop b).take (c - b) = (ts.drop a).take (c - a) := by
  have e : ts.drop b = (ts.drop a).drop (b - a) := by
    rw [List.drop_drop]
    congr 1
    omega
  rw [e, show c - a = (b - a) + (c - b) by omega, List.take_add]
def addT (s t : Tri) : Tri := (s.1 + t.1, s.2.1 + t.2.1, s.2.2 + t.2.2)
/-- what both parts have is what the leg has -/
theorem meas_add {ts : List Tri} {i j m : Int} (i0 : 0 ≤ i) (j0 : 0 ≤ j) (hm : loI i j < m) (hm2 : m < hiI i j) (hh : hiI i j ≤ ts.length) : ∃ s t, meas ts i m = some s ∧ meas ts m j = some t ∧ meas ts i j = some (addT s t) := by
  by_cases hij : i < j
  · have l1 : loI i j = i := by unfold loI; rw [if_neg (by omega)]
    have h1 : hiI i j = j := by unfold hiI; rw [if_pos hij]
    rw [l1] at hm
    rw [h1] at hm2 hh
    have l2 : loI i m = i := by unfold loI; rw [if_neg (by omega)]
    have h2 : hiI i m = m := by unfold hiI; rw [if_pos hm]
    have l3 : loI m j = m := by unfold loI; rw [if_neg (by omega)]
    have h3 : hiI m j = j := by unfold hiI; rw [if_pos hm2]
    have c : cutT ts i j = cutT ts i m ++ cutT ts m j := by
      unfold cutT
      rw [l1, h1, l2, h2, l3, h3, cut_join ts (by omega) (by omega)]
    refine ⟨_, _, by unfold meas; rw [if_neg (by omega)], by unfold meas; rw [if_neg (by omega)], ?_⟩
    unfold meas
    rw [if_neg (by omega), if_pos hij, if_pos hm, if_pos hm2, c]
    simp only [List.map_append, sum_app]
    rfl
  · have l1 : loI i j = j := by unfold loI; split <;> omega
    have h1 : hiI i j = i := by unfold hiI; rw [if_neg (by omega)]
    rw [l1] at hm
    rw [h1] at hm2 hh
    have l2 : loI i m = m := by unfold loI; rw [if_pos hm2]
    have h2 : hiI i m = i := by unfold hiI; rw [if_neg (by omega)]
    have l3 : loI m j = j := by unfold loI; rw [if_pos hm]
    have h3 : hiI m j = m := by unfold hiI; rw [if_neg (by omega)]
    have c : cutT ts i j = cutT ts m j ++ cutT ts i m := by
      unfold cutT
      rw [l1, h1, l2, h2, l3, h3, cut_join ts (by omega) (by omega)]
    refine ⟨_, _, by unfold meas; rw [if_neg (by omega)], by unfold meas; rw [if_neg (by omega)], ?_⟩
    unfold meas
    rw [if_neg (by omega), if_neg hij, if_neg (by omega : ¬ i < m), if_neg (by omega : ¬ m < j), c]
    simp only [List.map_append, sum_app]
    show some _ = some (_ + _, _ + _, _ + _)
    congr 1
    refine Prod.ext ?_ (Prod.ext ?_ ?_) <;> exact Int.add_comm _ _
def triL (t : Tri) : List Int := [t.1, t.2.1, t.2.2]
theorem shp_tri (t : Tri) : SeqAt.shaped (triD t) = true := rfl
abbrev sPt : Stmt := top 13
abbrev nPt : List Str := ["_law_section_here", "_law_leg", "_law_mark", "_law_parts", "_law_k"]
theorem scPt : FnScope nPt ["_law_section_here", "_law_leg"] (defScope sPt) := ⟨rfl, rfl, rfl, by decide +kernel, rfl, by decide +kernel, by decide +kernel⟩
def spParts : Sp := fun vs H Q _ => ∃ (p l : Addr) (nm : Str) (ms : List Str) (ts : List Tri) (i j : Int), vs = [.ref p, .ref l] ∧ SecAt H p nm ms ts ∧ ms.length = ts.length + 1 ∧ ts.length ≤ 10 ∧ LegAt H l i j ∧ hiI i j ≤ ts.length ∧ ∀ H', Same H H' → Q (.bl true) H'
/-- both parts' numbers together -/
theorem lc_add {K : PySem.W.Frag} {σ : L2.St} {H : Hp} {Q : VK} {r a b : Addr} {s t : Tri} (h3 : σ[3]? = some (some (.ref r))) (hi : 4 < σ.length) (er : H r = some (.lst [.ref a, .ref b])) (ea : H a = some (.tup (triV s))) (eb : H b = some (.tup (triV t)))
    (q : ∀ H' D, Same H H' → H' D = some (.lst (triV (addT s t))) → Q (.ref D) H') : tLc (iRng1 (tCons (tC (.int 3)) tNil)) (gName 4) tYes (tOp (rI0 fun i j => .int (i + j)) (tOp (rIxT K) (tOp (rIxL K) (tVar 3) (tC (.int 0))) (tVar 4)) (tOp (rIxT K) (tOp (rIxL K) (tVar 3) (tC (.int 1))) (tVar 4))) [4] σ H Q := by
  refine ⟨3, rfl, by decide, by decide, fun D nD => lc_it (walk_range (lo := 0) (n := 3)) (fun k H' => Same H H' ∧ H' D = some (.lst ((triV (addT s t)).take k))) ⟨same_upd nD, upd_same⟩ (fun _ _ _ _ => trivial) (fun k x Ha Hb hk pv y => ?_) fun H' pv => ?_⟩
  · obtain ⟨sm, eD⟩ := pv
    obtain ⟨rfl, rfl⟩ := y
    have gi : ∀ x, ((wipe σ [4]).set 4 (some x))[4]? = some (some x) := fun x => set_get (by rw [wipe_length]; exact hi)
    have g3 : ∀ x, ((wipe σ [4]).set 4 x)[3]? = some (some (.ref r)) := fun x => by
      show ((σ.set 4 none).set 4 x)[3]? = _
      rw [List.getElem?_set_ne (by decide), List.getElem?_set_ne (by decide)]
      exact h3
    refine ⟨?_, ?_⟩
    · show (((σ.set 4 none).set 4 _).set 4 none) = σ.set 4 none
      rw [List.set_set, List.set_set]
    · dsimp only [tYes]
      rw [if_pos rfl]
      have at_ : ∀ u : Tri, atI (triV u) (0 + (k : Int)) = ((triL u)[k]?).map V.int := fun u => by
        match k, hk with
        | 0, _ => rfl
        | 1, _ => rfl
        | 2, _ => rfl
      obtain ⟨x, ex⟩ : ∃ x, (triL s)[k]? = some x := ⟨_, List.getElem?_eq_getElem hk⟩
      obtain ⟨y, ey⟩ : ∃ y, (triL t)[k]? = some y := ⟨_, List.getElem?_eq_getElem hk⟩
      refine ⟨_, g3 _, r, _, 0, _, rfl, rfl, .of (sm _ _ er), rfl, _, gi _, a, _, _, .int x, rfl, rfl, .of (sm _ _ ea), by rw [at_, ex]; rfl, _, g3 _, r, _, 1, _, rfl, rfl, .of (sm _ _ er), rfl, _, gi _, b, _, _, .int y, rfl, rfl, .of (sm _ _ eb), by rw [at_, ey]; rfl, _, _, rfl, rfl, _, eD, ?_, fun b o e => ?_, ?_⟩
      · rw [List.length_take]
        exact len20k (by omega)
      · rw [upd_ne (ne_none e nD)]
        exact sm _ _ e
      · rw [upd_same]
        match k, hk, ex, ey with
        | 0, _, ex, ey =>
          cases ex
          cases ey
          rfl
        | 1, _, ex, ey =>
          cases ex
          cases ey
          rfl
        | 2, _, ex, ey =>
          cases ex
          cases ey
          rfl
  · obtain ⟨sm, eD⟩ := pv
    exact q _ _ sm eD
theorem ifS_go {te : TT} {a b : TS} {D : Ends} {σ : L2.St} {H : Hp} (h : te σ H fun c H1 => if c = true then a D σ H1 else b D σ H1) : tIfS te a b D σ H := h
theorem test_go {te : TE} {σ : L2.St} {H : Hp} {Q : Bool → Hp → Prop} (h : te σ H fun x H1 => ∃ c, x = .bl c ∧ Q c H1) : tTest te σ H Q := h
section
variable {P : Program} {w : World} {K : PySem.W.Frag} {mg : Str → Option Value} {base : Heap} {f : Addr} {fd : FuncData}
theorem ok_parts {fM : Addr} {dM : FuncData} {sM : Stmt} {psM : List Str} (F : FnD K "_law_in_parts" sPt [] f fd) (gm : mg "min" = none) (gx : mg "max" = none) (gr : mg "range" = none) (gT : mg "tuple" = none) (FM : FnD K "measure" sM [] fM dM) (gM : mg "measure" = some (.ref fM)) (bM : Binds K dM psM [])
    (GM : FnOk P w K mg base CX0 2 fM dM psM spMeas) : FnOk P w K mg base CX0 3 f fd ["_law_section_here", "_law_leg"] spParts := by
  refine F.ok scPt (fun vs H Q E h => ?_) (fun cdv A outer s H vs Q E hr h => ?_)
  · obtain ⟨p, l, nm, ms, ts, i, j, rfl, _⟩ := h
    rfl
  · obtain ⟨p, l, nm, ms, ts, i, j, rfl, sec, ml, tl10, leg, hhi, q⟩ := h
    have hr1 := hr
    refine ⟨_, PSs.nox (pss_cons (ps_for PassesOwn.never rfl (pi_range2 rfl gr (pa_cons (pe_op op_add (pe_callB (call_min2 rfl) rfl gm boot_min (pa_cons (pe_ix ix_tup (pv 1) pe_int (fun _ _ => rfl)) (pa_cons (pe_ix ix_tup (pv 1) pe_int (fun _ _ => rfl)) pa_nil))) pe_int) (pa_cons (pe_callB (call_max2 rfl) rfl gx (show bootBuiltins "max" = some (.builtin "max") by decide +kernel) (pa_cons (pe_ix ix_tup (pv 1) pe_int (fun _ _ => rfl)) (pa_cons (pe_ix ix_tup (pv 1) pe_int (fun _ _ => rfl)) pa_nil))) pa_nil))) (pg_name (i := 2) scPt.nd rfl (.inl rfl)) (pss_cons (ps_set (i := 3) scPt.nd rfl (.inr rfl) (pe_lst (pa_cons (pe_call GM hr1 rfl gM FM.kp bM .nil pass0 (pa_cons (pv 0) (pa_cons (pe_tup (pa_cons (pe_ix ix_tup (pv 1) pe_int (fun _ _ => rfl)) (pa_cons (pe_ix ix_tup (pv 1) pe_int (fun _ _ => rfl)) (pa_cons (pv 2) pa_nil)))) pa_nil))) (pa_cons (pe_call GM hr1 rfl gM FM.kp bM .nil pass0 (pa_cons (pv 0) (pa_cons (pe_tup (pa_cons (pe_ix ix_tup (pv 1) pe_int (fun _ _ => rfl)) (pa_cons (pv 2) (pa_cons (pe_ix ix_tup (pv 1) pe_int (fun _ _ => rfl)) pa_nil)))) pa_nil))) pa_nil)))) (pss_one (ps_if (pt_cmpR (op_neD hr.units) (pe_callTy call_tuple_of rfl gT (show bootBuiltins "tuple" = some (.type "tuple") by decide +kernel) (pa_cons (pe_lc (own := [("_law_k", 4)]) (g := gName 4) (tt := tYes) (te := tOp (rI0 fun i j => .int (i + j)) (tOp (rIxT K) (tOp (rIxL K) (tVar 3) (tC (.int 0))) (tVar 4)) (tOp (rIxT K) (tOp (rIxL K) (tVar 3) (tC (.int 1))) (tVar 4))) rfl scPt.nd (pi_range1 rfl gr (pa_cons pe_int pa_nil)) (blkOk_by (N := nPt) (sc := defScope sPt) (by decide +kernel)) (fun _ _ _ _ _ => pg_name (i := 4) scPt.nd rfl (.inl rfl)) (fun _ _ _ _ _ => pts_nil) (fun _ _ _ _ _ => (pe_op op_add (pe_ix ix_tup (pe_ix ix_list (pv 3) pe_int (fun _ _ => rfl)) (pv 4) (fun _ _ => rfl)) (pe_ix ix_tup (pe_ix ix_list (pv 3) pe_int (fun _ _ => rfl)) (pv 4) (fun _ _ => rfl))))) pa_nil)) (pe_call GM hr1 rfl gM FM.kp bM .nil pass0 (pa_cons (pv 0) (pa_cons (pv 1) pa_nil))) (nomark _)) (pss_one (ps_ret pe_bl)) pss_nil)))) (pss_one (ps_ret pe_bl))), ?_⟩
    dsimp only [cxOf]
    obtain ⟨⟨nm2, el⟩, i0, i7, j0, j7⟩ := id leg
    refine ⟨_, rfl, l, _, _, _, rfl, rfl, .of el, rfl, _, rfl, l, _, _, _, rfl, rfl, .of el, rfl, _, _, rfl, _, _, rfl, rfl, _, rfl, l, _, _, _, rfl, rfl, .of el, rfl, _, rfl, l, _, _, _, rfl, rfl, .of el, rfl, _, _, rfl, _, _, rfl, ?_, ?_⟩
    · refine ⟨?_, ?_, ?_, ?_⟩ <;> split <;> omega
    · refine for_range (lo := _) (n := _) (fun k σ H' => Same H H' ∧ ∃ y2 y3, σ = [some (.ref p), some (.ref l), y2, y3, none]) ⟨Same.refl _, none, none, rfl⟩ (fun k σ H' hk z => ?_) (fun σ H' z => ?_)
      · obtain ⟨sm, y2, y3, rfl⟩ := z
        have hlo : (if j < i then j else i) = loI i j := rfl
        have hhI : (if j > i then j else i) = hiI i j := rfl
        rw [hlo, hhI] at hk
        rw [hlo]
        generalize hmk : loI i j + 1 + (k : Int) = m
        have m1 : loI i j < m := by omega
        have m2 : m < hiI i j := by omega
        have lo0 : 0 ≤ loI i j := by unfold loI; split <;> omega
        have hi7 : hiI i j ≤ 7 := by unfold hiI; split <;> omega
        have hne : i ≠ m ∧ m ≠ j ∧ i ≠ j := by
          unfold loI at m1
          unfold hiI at m2
          refine ⟨?_, ?_, ?_⟩ <;> (intro z; split at m1 <;> split at m2 <;> omega)
        obtain ⟨hne1, hne2, hne3⟩ := hne
        obtain ⟨u, t, e1, e2, e3⟩ := meas_add i0 j0 m1 m2 hhi
        have el1 := sm _ _ el
        refine ⟨_, rfl, _, rfl, l, _, _, _, rfl, rfl, .of el1, rfl, _, rfl, l, _, _, _, rfl, rfl, .of el1, rfl, _, rfl, (by show 3 ≤ sizeLine; decide), fun t1 n1 => ?_⟩
        obtain ⟨u1, w1⟩ := nxo (o := .tup [.str nm2, .int i, .int m]) n1
        refine ⟨p, t1, nm, ms, ts, i, m, rfl, (sec.same sm).same u1, ml, tl10, ⟨⟨nm2, w1⟩, i0, i7, by omega, by omega⟩, hne1, fun H2 v1 s2 ma1 => ?_⟩
        have s12 := sm.trans (u1.trans s2)
        have el2 := s12 _ _ el
        refine ⟨_, rfl, _, rfl, l, _, _, _, rfl, rfl, .of el2, rfl, _, rfl, _, rfl, l, _, _, _, rfl, rfl, .of el2, rfl, (by show 3 ≤ sizeLine; decide), fun t2 n2 => ?_⟩
        obtain ⟨u2, w2⟩ := nxo (o := .tup [.str nm2, .int m, .int j]) n2
        refine ⟨p, t2, nm, ms, ts, m, j, rfl, (sec.same s12).same u2, ml, tl10, ⟨⟨nm2, w2⟩, by omega, by omega, j0, j7⟩, hne2, fun H3 v2 s3 ma2 => ⟨(by show 2 ≤ sizeLine; decide), fun r nr => ?_⟩⟩
        rw [e1] at ma1
        rw [e2] at ma2
        obtain ⟨a, rfl, ea⟩ := ma1
        obtain ⟨b, rfl, eb⟩ := ma2
        obtain ⟨u3, w3⟩ := nxo (o := .lst [.ref a, .ref b]) nr
        generalize upd H3 r (.lst [.ref a, .ref b]) = H4 at u3 w3 ⊢
        refine gName_go ?_
        try dsimp only
        refine ifS_go (test_go (op_go (cB_go (cons_go ?_))))
        refine lc_add (σ := [some (.ref p), some (.ref l), some (.int m), some (.ref r), none]) rfl (Nat.lt_of_sub_eq_succ rfl) w3 (u3 _ _ (s3 _ _ (u2 _ _ ea))) (u3 _ _ eb) fun H5 D5 s5 e5 => ?_
        refine ⟨D5, _, rfl, .inl ⟨.of e5, fun t5 n5 => ?_⟩⟩
        obtain ⟨u5, w5⟩ := nxo (o := .tup (triV (addT u t))) n5
        generalize upd H5 t5 (.tup (triV (addT u t))) = H6 at u5 w5 ⊢
        have s16 := s12.trans (u2.trans (s3.trans (u3.trans (s5.trans u5))))
        refine ⟨_, rfl, _, rfl, p, l, nm, ms, ts, i, j, rfl, sec.same s16, ml, tl10, leg.same s16, hne3, fun H7 v7 s7 ma7 => ?_⟩
        rw [e3] at ma7
        obtain ⟨c, rfl, ec⟩ := ma7
        refine ⟨triD (addT u t), triD (addT u t), dp_tri (s7 _ _ w5), dp_tri ec, shp_tri _, shp_tri _, _, rfl, ?_⟩
        rw [SeqAt.eqv_refl _ (SeqAt.canLay_of_shaped (shp_tri _))]
        exact iteF ⟨s16.trans s7, _, _, rfl⟩
      · obtain ⟨sm, _⟩ := z
        exact q H' sm
end
end Pb

namespace Pb
open PySem PySem.Spec PyProof.Rows L2 TL
/-- repr of data, or of None -/
def rReprO (K : PySem.W.Frag) : List V → Hp → VK → Prop := fun xs H Q => rRepr K xs H Q ∨ (xs = [.non] ∧ Q (.str "None") H)
theorem call_reprO {X : Cx} {k : Nat} (gd : X.A.guards = some []) (hr : Room k X.A) : CallR X (.builtin "repr") (rReprO X.K) := by
  intro pins s σ H xs us Q I r hyp
  rcases hyp with h | ⟨rfl, q⟩
  · exact call_repr gd hr pins s σ H xs us Q I r h
  · cases r with
    | cons rx rn =>
      cases rn
      cases rx
      exact PySem.P.repr_of_none ⟨.str "None", H, I.tok _, ⟨_, rfl⟩, q⟩
theorem Sm.bool (b : Bool) : Sm 0 0 (.bool b) := by
  cases b
  · exact ⟨by decide, by decide, rfl, Nat.le_refl _, Nat.le_refl _⟩
  · exact ⟨by decide, by decide, rfl, Nat.le_refl _, Nat.le_refl _⟩
theorem Sm.ok {n k : Nat} {d : PyData} (h : Sm n k d) (hn : n ≤ 1048576) (hk : k ≤ 60) : d.showable = true ∧ d.hasDict = false ∧ d.depth ≤ 60 ∧ d.shown.length ≤ sizeLine := ⟨h.sh, h.nd, Nat.le_trans h.dp hk, h.fits hn⟩
def stpD (t : Stp) : PyData := .tuple [.int t.1, .bool t.2]
theorem sm_stp {t : Stp} (h : t.1.natAbs < 10 ^ 12) : Sm 2 1 (stpD t) := .tup (.cons (.int h) (.cons (.bool _) .nil))
theorem sm_stps : ∀ (ts : List Stp), (∀ t ∈ ts, t.1.natAbs < 10 ^ 12) → SmA (3 * ts.length) 1 (ts.map stpD)
  | [], _ => ⟨rfl, rfl, rfl, Nat.zero_le _, Nat.le_refl _⟩
  | t :: ts, h => by
    have a := SmA.cons (sm_stp (h t List.mem_cons_self)) (sm_stps ts fun u hu => h u (List.mem_cons_of_mem _ hu))
    refine ⟨a.sh, a.ls, a.nd, a.dp, Nat.le_trans a.bk ?_⟩
    rw [List.length_cons]
    omega
theorem dp_stps {K : PySem.W.Frag} {H : Hp} {r : Addr} {as : List Addr} {ws : List Stp} (h : StpsAt H as ws) (e : H r = some (.lst (as.map V.ref))) : Dp K H (.ref r) (.list (ws.map stpD)) := by
  refine .lst (.of e) ?_
  clear e
  induction as generalizing ws with
  | nil =>
    cases ws with
    | nil => exact .nil
    | cons a r => exact absurd h.1 (by simp)
  | cons a as ih =>
    cases ws with
    | nil => exact absurd h.1 (by simp)
    | cons t ws => exact .cons (.tup (.of (h.2 0 a t rfl rfl)) (.cons (.int _) (.cons (.bl _) .nil))) (ih ⟨by have := h.1; simp at this; exact this, fun i b r h1 h2 => h.2 (i + 1) b r h1 h2⟩)
theorem steps_small {i j : Int} (i0 : 0 ≤ i) (i7 : i ≤ 7) (j0 : 0 ≤ j) (j7 : j ≤ 7) : (∀ t ∈ stepsL i j, t.1.natAbs < 10 ^ 12) ∧ (stepsL i j).length ≤ 7 := by
  unfold stepsL
  by_cases h : i < j
  · rw [if_pos h]
    refine ⟨fun t ht => ?_, ?_⟩
    · obtain ⟨k, hk, rfl⟩ := List.mem_map.mp ht
      rw [List.mem_range] at hk
      show (i + (k : Int)).natAbs < 10 ^ 12
      omega
    · rw [List.length_map, List.length_range]
      omega
  · rw [if_neg h]
    refine ⟨fun t ht => ?_, ?_⟩
    · obtain ⟨k, hk, rfl⟩ := List.mem_map.mp ht
      rw [List.mem_range] at hk
      show (i - 1 - (k : Int)).natAbs < 10 ^ 12
      omega
    · rw [List.length_map, List.length_range]
      omega
theorem sum_bd : ∀ (l : List Int) (n : Nat), l.length ≤ n → (∀ x ∈ l, 0 ≤ x ∧ x ≤ 999) → 0 ≤ l.sum ∧ l.sum ≤ 999 * (n : Int)
  | [], n, _, _ => by simp; omega
  | x :: l, n, hl, h => by
    rw [List.length_cons] at hl
    have ih := sum_bd l (n - 1) (by omega) fun y hy => h y (List.mem_cons_of_mem _ hy)
    have hx := h x List.mem_cons_self
    rw [List.sum_cons]
    have : ((n - 1 : Nat) : Int) = (n : Int) - 1 := by omega
    rw [this] at ih
    omega
theorem cut_mem {α : Type} {ts : List α} {i j : Int} {t : α} (h : t ∈ cutT ts i j) : t ∈ ts := List.mem_of_mem_drop (List.mem_of_mem_take h)
theorem cut_len {α : Type} (ts : List α) (i j : Int) : (cutT ts i j).length ≤ ts.length := by
  unfold cutT
  rw [List.length_take, List.length_drop]
  omega
theorem meas_small {ts : List Tri} {i j : Int} {u : Tri} (h : ∀ t ∈ ts, TriOk t) (hl : ts.length ≤ 10) (e : meas ts i j = some u) : u.1.natAbs < 10 ^ 12 ∧ u.2.1.natAbs < 10 ^ 12 ∧ u.2.2.natAbs < 10 ^ 12 := by
  have b : ∀ g : Tri → Int, (∀ t, TriOk t → 0 ≤ g t ∧ g t ≤ 999) → (((cutT ts i j).map g).sum).natAbs < 10 ^ 12 := fun g hg => by
    have := sum_bd ((cutT ts i j).map g) 10 (by rw [List.length_map]; exact Nat.le_trans (cut_len ts i j) hl) fun x hx => by
      obtain ⟨t, ht, rfl⟩ := List.mem_map.mp hx
      exact hg t (h t (cut_mem ht))
    omega
  have b1 := b (fun t => t.1) fun t o => ⟨o.1, o.2.1⟩
  have b2 := b (fun t => t.2.1) fun t o => ⟨o.2.2.1, o.2.2.2.1⟩
  have b3 := b (fun t => t.2.2) fun t o => ⟨o.2.2.2.2.1, o.2.2.2.2.2⟩
  unfold meas at e
  split at e
  · cases e
  · injection e with e
    by_cases hij : i < j
    · rw [if_pos hij] at e
      rw [← e]
      exact ⟨b1, b2, b3⟩
    · rw [if_neg hij] at e
      rw [← e]
      exact ⟨b1, b3, b2⟩
theorem sm_tri {u : Tri} (h : u.1.natAbs < 10 ^ 12 ∧ u.2.1.natAbs < 10 ^ 12 ∧ u.2.2.natAbs < 10 ^ 12) : Sm 3 1 (triD u) := .tup (.cons (.int h.1) (.cons (.int h.2.1) (.cons (.int h.2.2) .nil)))
def measS : Option Tri → Str
  | none => "None"
  | some t => (triD t).shown
/-- what a measure's repr says -/
theorem repr_meas {K : PySem.W.Frag} {H : Hp} {v : V} {ts : List Tri} {i j : Int} {Q : VK} (h : ∀ t ∈ ts, TriOk t) (hl : ts.length ≤ 10) (m : MeasAt H v (meas ts i j)) (q : Q (.str (measS (meas ts i j))) H) : rReprO K [v] H Q := by
  cases e : meas ts i j with
  | none =>
    rw [e] at m q
    cases m
    exact .inr ⟨rfl, q⟩
  | some u =>
    rw [e] at m q
    obtain ⟨a, rfl, ea⟩ := m
    obtain ⟨o1, o2, o3, o4⟩ := (sm_tri (meas_small h hl e)).ok (by decide) (by decide)
    exact .inl ⟨a, triD u, rfl, dp_tri ea, o1, o2, o3, o4, q⟩
abbrev sLr : Stmt := top 14
abbrev nLr : List Str := ["_law_section_here", "_law_leg", "_law_told"]
theorem scLr : FnScope nLr ["_law_section_here", "_law_leg"] (defScope sLr) := ⟨rfl, rfl, rfl, by decide +kernel, rfl, by decide +kernel, by decide +kernel⟩
def spLr : Sp := fun vs H Q _ => ∃ (p l : Addr) (nm : Str) (ms : List Str) (ts : List Tri) (i j : Int), vs = [.ref p, .ref l] ∧ SecAt H p nm ms ts ∧ ms.length = ts.length + 1 ∧ (∀ t ∈ ts, TriOk t) ∧ ts.length ≤ 10 ∧ LegAt H l i j ∧ i ≠ j ∧ ∀ H', Same H H' → Q (.bl true) H'
section
variable {P : Program} {w : World} {K : PySem.W.Frag} {mg : Str → Option Value} {base : Heap} {f : Addr} {fd : FuncData}
theorem ok_legr {fM fS fL fD : Addr} {dM dS dL dD : FuncData} {sM sS : Stmt} {psM psS : List Str} (F : FnD K "_law_leg_right" sLr [] f fd) (gp : mg "repr" = none) (FM : FnD K "measure" sM [] fM dM) (gM : mg "measure" = some (.ref fM)) (bM : Binds K dM psM []) (GM : FnOk P w K mg base CX0 2 fM dM psM spMeas)
    (FS : FnD K "steps_of" sS [] fS dS) (gS : mg "steps_of" = some (.ref fS)) (bS : Binds K dS psS []) (GS : FnOk P w K mg base CX0 1 fS dS psS spSteps) (FL : FnD K "_law_steps" sSt [] fL dL) (gL : mg "_law_steps" = some (.ref fL)) (GL : FnOk P w K mg base CX0 1 fL dL ["_law_leg"] spSteps)
    (FD : FnD K "_law_due" sDue [] fD dD) (gD : mg "_law_due" = some (.ref fD)) (GD : FnOk P w K mg base CX0 1 fD dD ["_law_section_here", "_law_leg"] spMeas) : FnG P w K mg base CX0 3 f fd ["_law_section_here", "_law_leg"] spLr := by
  have bL : Binds K dL ["_law_leg"] [] := FL.bindsN fun _ _ _ _ _ _ us hl => match us, hl with | [_], _ => rfl
  have bD : Binds K dD ["_law_section_here", "_law_leg"] [] := FD.bindsN fun _ _ _ _ _ _ us hl => match us, hl with | [_, _], _ => rfl
  refine fnG_of F scLr (fun vs H Q E h => ?_) (fun cdv A outer s H vs Q E gd hr h => ?_)
  · obtain ⟨p, l, nm, ms, ts, i, j, rfl, _⟩ := h
    rfl
  · obtain ⟨p, l, nm, ms, ts, i, j, rfl, sec, ml, tok, tl10, leg, hij, q⟩ := h
    have hr1 := hr
    refine ⟨_, PSs.nox (pss_cons (ps_set (i := 2) scLr.nd rfl (.inl rfl) (pe_call GS (hr1.mono (by decide)) rfl gS FS.kp bS .nil pass0 (pa_cons (pv 1) pa_nil))) (pss_cons (ps_if (PW.pt (pw_or (pt_cmpR op_ne (pe_callB (call_repr gd hr) rfl gp boot_repr (pa_cons (pv 2) pa_nil)) (pe_callB (call_repr gd hr) rfl gp boot_repr (pa_cons (pe_call GL (hr1.mono (by decide)) rfl gL FL.kp bL .nil pass0 (pa_cons (pv 1) pa_nil)) pa_nil)) (nomark _)) (pw_or1 (pt_cmpR op_ne (pe_callB (call_reprO gd hr) rfl gp boot_repr (pa_cons (pe_call GM (hr1.mono (by decide)) rfl gM FM.kp bM .nil pass0 (pa_cons (pv 0) (pa_cons (pv 1) pa_nil))) pa_nil)) (pe_callB (call_reprO gd hr) rfl gp boot_repr (pa_cons (pe_call GD (hr1.mono (by decide)) rfl gD FD.kp bD .nil pass0 (pa_cons (pv 0) (pa_cons (pv 1) pa_nil))) pa_nil)) (nomark _))))) (pss_one (ps_ret pe_bl)) pss_nil) (pss_cons (ps_expr (pe_bm PySem.F.plainAttrs_list PySem.F.slot_list_append PySem.F.type_list_append mt_append (pv 2) (pa_cons (pe_tup (pa_cons (pe_ix ix_tup (pe_ix ix_list (pv 2) pe_int (fun _ _ => rfl)) pe_int (fun _ _ => rfl)) (pa_cons pe_non pa_nil))) pa_nil))) (pss_cons (ps_asg (pe_tup (pa_cons pe_int (pa_cons pe_non pa_nil))) (pg_sub (pv 2) pe_int set_list)) (pss_one (ps_ret (pe_cmpR op_eq (pe_callB (call_repr gd hr) rfl gp boot_repr (pa_cons (pe_call GS (hr1.mono (by decide)) rfl gS FS.kp bS .nil pass0 (pa_cons (pv 1) pa_nil)) pa_nil)) (pe_callB (call_repr gd hr) rfl gp boot_repr (pa_cons (pe_call GL (hr1.mono (by decide)) rfl gL FL.kp bL .nil pass0 (pa_cons (pv 1) pa_nil)) pa_nil)) (nomark _)))))))), ?_⟩
    dsimp only [cxOf]
    have ls := leg.2
    obtain ⟨ss1, ss2⟩ := steps_small ls.1 ls.2.1 ls.2.2.1 ls.2.2.2
    obtain ⟨o1, o2, o3, o4⟩ := (Sm.lst (sm_stps _ ss1)).ok (by omega) (by decide)
    have sne : stepsL i j ≠ [] := by
      unfold stepsL
      by_cases h : i < j
      · rw [if_pos h]
        intro e
        have := congrArg List.length e
        rw [List.length_map, List.length_range, List.length_nil] at this
        omega
      · rw [if_neg h]
        intro e
        have := congrArg List.length e
        rw [List.length_map, List.length_range, List.length_nil] at this
        omega
    refine ⟨_, rfl, l, i, j, rfl, leg, hij, fun H1 r as s1 nr er st => ?_⟩
    refine ⟨_, rfl, r, _, rfl, dp_stps st er, o1, o2, o3, o4, ?_⟩
    refine ⟨_, rfl, l, i, j, rfl, leg.same s1, hij, fun H2 r2 as2 s2 nr2 er2 st2 => ⟨r2, _, rfl, dp_stps st2 er2, o1, o2, o3, o4, rfl, _, rfl, ?_⟩⟩
    rw [decide_eq_true rfl]
    have s12 := s1.trans s2
    refine iteF ⟨_, rfl, _, rfl, p, l, nm, ms, ts, i, j, rfl, sec.same s12, ml, tl10, leg.same s12, hij, fun H3 v3 s3 m3 => repr_meas tok tl10 m3 ?_⟩
    have s13 := s12.trans s3
    refine ⟨_, rfl, _, rfl, p, l, nm, ms, ts, i, j, rfl, sec.same s13, ml, tl10, leg.same s13, hij, fun H4 v4 s4 m4 => repr_meas tok tl10 m4 ⟨rfl, _, rfl, ?_⟩⟩
    rw [decide_eq_true rfl]
    refine iteF ?_
    have s24 := s2.trans (s3.trans s4)
    have er4 := s24 _ _ er
    have st4 := st.same s24
    -- what was told is changed
    obtain ⟨t0, trest, et⟩ : ∃ t0 tr, stepsL i j = t0 :: tr := by
      cases e : stepsL i j with
      | nil => exact absurd e sne
      | cons a b => exact ⟨a, b, rfl⟩
    have asl := st4.1
    rw [et] at asl
    obtain ⟨a0, arest, ea⟩ : ∃ a0 ar, as = a0 :: ar := by
      cases e : as with
      | nil =>
        rw [e] at asl
        cases asl
      | cons a b => exact ⟨a, b, rfl⟩
    subst ea
    have ea0 : H4 a0 = some (.tup (stpV t0)) := st4.2 0 a0 t0 rfl (by rw [et]; rfl)
    refine ⟨_, rfl, .inl ⟨rfl, _, .of er4⟩, _, rfl, r, _, 0, _, rfl, rfl, .of er4, (show atI ((a0 :: arest).map V.ref) ((0 : Nat) : Int) = some (.ref a0) from atI_nat rfl), a0, _, 0, _, rfl, rfl, .of ea0, rfl, (by show 2 ≤ sizeLine; decide), fun t5 n5 => ?_⟩
    obtain ⟨u5, w5⟩ := nxo (o := .tup [.int t0.1, .non]) n5
    generalize upd H4 t5 (.tup [.int t0.1, .non]) = H5 at u5 w5 ⊢
    have er5 := u5 _ _ er4
    refine ⟨r, _, _, rfl, rfl, er5, ?_, ?_⟩
    · rw [List.length_map]
      exact len20k (by rw [asl]; rw [et] at ss2; omega)
    have er6 : (upd H5 r (.lst ((a0 :: arest).map V.ref ++ [.ref t5]))) r = some (.lst ((a0 :: arest).map V.ref ++ [.ref t5])) := upd_same
    have k6 : Same H (upd H5 r (.lst ((a0 :: arest).map V.ref ++ [.ref t5]))) := fun b o e => by
      rw [upd_ne (ne_none e nr)]
      exact u5 _ _ (s24 _ _ (s1 _ _ e))
    generalize upd H5 r (.lst ((a0 :: arest).map V.ref ++ [.ref t5])) = H6 at er6 k6 ⊢
    refine ⟨(by show 2 ≤ sizeLine; decide), fun t7 n7 => ?_⟩
    obtain ⟨u7, w7⟩ := nxo (o := .tup [.int 9, .non]) n7
    generalize upd H6 t7 (.tup [.int 9, .non]) = H7 at u7 w7 ⊢
    refine ⟨_, rfl, r, _, 0, 0, rfl, rfl, u7 _ _ er6, (by unfold ixN; rw [if_pos (by decide), if_pos (by simp; omega)]; rfl), ?_⟩
    have k8 : Same H (upd H7 r (.lst (((a0 :: arest).map V.ref ++ [V.ref t5]).set 0 (V.ref t7)))) := fun b o e => by
      rw [upd_ne (ne_none e nr)]
      exact u7 _ _ (k6 _ _ e)
    generalize upd H7 r (.lst (((a0 :: arest).map V.ref ++ [V.ref t5]).set 0 (V.ref t7))) = H8 at k8 ⊢
    refine ⟨_, rfl, l, i, j, rfl, leg.same k8, hij, fun H9 r9 as9 s9 nr9 er9 st9 => ⟨r9, _, rfl, dp_stps st9 er9, o1, o2, o3, o4, ?_⟩⟩
    refine ⟨_, rfl, l, i, j, rfl, leg.same (k8.trans s9), hij, fun Ha ra asa sa nra era sta => ⟨ra, _, rfl, dp_stps sta era, o1, o2, o3, o4, rfl, ?_⟩⟩
    rw [decide_eq_true rfl]
    exact q Ha (k8.trans (s9.trans sa))
end
end Pb

namespace Pb
open PySem PySem.Spec PyProof.Rows L2 TL
/-! ### the law -/
theorem SmA.le {n k n' k' : Nat} {ds : List PyData} (h : SmA n k ds) (hn : n ≤ n') (hk : k ≤ k') : SmA n' k' ds := ⟨h.sh, h.ls, h.nd, Nat.le_trans h.dp hk, Nat.le_trans h.bk hn⟩
theorem Sm.le {n k n' k' : Nat} {d : PyData} (h : Sm n k d) (hn : n ≤ n') (hk : k ≤ k') : Sm n' k' d := ⟨h.sh, h.ls, h.nd, Nat.le_trans h.dp hk, Nat.le_trans h.bk hn⟩
theorem sm_sh {y : Str} {j : Nat} (h : Sh j y) : Sm j 0 (.str y) := by
  refine Sm.str ?_ ?_
  · rw [List.all_eq_true]
    intro c hc
    exact decide_eq_true (Nat.lt_trans (h.1 c hc) (by decide))
  · have : y.cps.size = (tl y).length := Array.length_toList.symm
    rw [this]
    exact h.2
theorem sm_all {n k : Nat} : ∀ (ds : List PyData), (∀ d ∈ ds, Sm n k d) → SmA ((n + 1) * ds.length) k ds
  | [], _ => ⟨rfl, rfl, rfl, Nat.zero_le _, Nat.zero_le _⟩
  | d :: ds, h => by
    have a := SmA.cons (h d List.mem_cons_self) (sm_all ds fun e he => h e (List.mem_cons_of_mem _ he))
    refine a.le ?_ (by omega)
    rw [List.length_cons, Nat.mul_succ]
    omega
theorem sm_sec {nm : Str} {ms : List Str} {ts : List Tri} (h1 : Sh 8 nm) (h2 : ∀ y ∈ ms, Sh 8 y) (h3 : ∀ t ∈ ts, TriOk t) (l1 : ms.length ≤ 8) (l2 : ts.length ≤ 8) : Sm 200 3 (secD nm ms ts) := by
  have a : SmA (9 * ms.length) 0 (ms.map .str) := by
    have := sm_all (n := 8) (k := 0) (ms.map .str) fun d hd => by
      obtain ⟨y, hy, rfl⟩ := List.mem_map.mp hd
      exact sm_sh (h2 y hy)
    rw [List.length_map] at this
    exact this
  have b : SmA (4 * ts.length) 1 (ts.map triD) := by
    have := sm_all (n := 3) (k := 1) (ts.map triD) fun d hd => by
      obtain ⟨t, ht, rfl⟩ := List.mem_map.mp hd
      obtain ⟨o1, o2, o3, o4, o5, o6⟩ := h3 t ht
      exact sm_tri ⟨by omega, by omega, by omega⟩
    rw [List.length_map] at this
    exact this
  exact (Sm.tup (.cons (sm_sh h1) (.cons (.tup a) (.cons (.tup b) .nil)))).le (by omega) (by decide)
def spLaw (K : PySem.W.Frag) : Sp := fun vs H Q _ => ∃ (a : Addr) (ns : List Int), vs = [.ref a] ∧ SqL K H a (ns.map V.int) ∧ ns.length ≤ 63 ∧ ∀ H', Q (.bl true) H'
abbrev sLaw : Stmt := top 15
abbrev nLaw : List Str := ["_law_script", "_law_draw", "_law_turn", "_law_name", "_law_pool", "_law_sections", "_law_before", "_law_leg", "_law_section_here", "_law_k"]
theorem scLaw : FnScope nLaw ["_law_script"] (defScope sLaw) := ⟨rfl, rfl, rfl, by decide +kernel, rfl, by decide +kernel, by decide +kernel⟩
structure LK (K : PySem.W.Frag) (mg : Str → Option Value) : Prop where
  fBegin : ∃ f fd, FnP K "_law_begin" sBegin f fd ∧ mg "_law_begin" = some (.ref f)
  fMixed : ∃ f fd, FnP K "_law_mixed" sMixed f fd ∧ mg "_law_mixed" = some (.ref f)
  fNext : ∃ f fd, FnP K "_law_next" sNext f fd ∧ mg "_law_next" = some (.ref f)
  fWords : ∃ f fd, FnD K "_law_words" sWords [] f fd ∧ mg "_law_words" = some (.ref f)
  fStr : ∃ f fd, FnD K "_law_stretch" sStr [] f fd ∧ mg "_law_stretch" = some (.ref f)
  fSec : ∃ f fd, FnD K "_law_section" sSec [] f fd ∧ mg "_law_section" = some (.ref f)
  fSt : ∃ f fd, FnD K "_law_steps" sSt [] f fd ∧ mg "_law_steps" = some (.ref f)
  fDue : ∃ f fd, FnD K "_law_due" sDue [] f fd ∧ mg "_law_due" = some (.ref f)
  fPt : ∃ f fd, FnD K "_law_in_parts" sPt [] f fd ∧ mg "_law_in_parts" = some (.ref f)
  fLr : ∃ f fd, FnD K "_law_leg_right" sLr [] f fd ∧ mg "_law_leg_right" = some (.ref f)
  gLen : mg "len" = none
  gMin : mg "min" = none
  gMax : mg "max" = none
  gRange : mg "range" = none
  gRepr : mg "repr" = none
  gTuple : mg "tuple" = none
  gSum : mg "sum" = none
/-- legs, each of unlike numbers -/
def LegsAt (H : Hp) (as : List Addr) : Prop := ∀ a ∈ as, ∃ i j : Int, LegAt H a i j ∧ i ≠ j
theorem lc_legs {σ : L2.St} {H : Hp} {Q : VK} {nm : Str} (h3 : σ[3]? = some (some (.str nm))) (hi : 9 < σ.length) (q : ∀ (H' : Hp) (D : Addr) (as : List Addr), Same H H' → LegsAt H' as → H' D = some (.lst (as.map V.ref)) → Q (.ref D) H') :
    tLc (iRng1 (tCons (tC (.int 64)) tNil)) (gName 9) (tTest (tOp rNe (tOp (rI CDiv fun i j => .int (i / j)) (tVar 9) (tC (.int 8))) (tOp (rI (fun _ j => 0 < j) fun i j => .int (i % j)) (tVar 9) (tC (.int 8))))) (tTup (tCons (tVar 3) (tCons (tOp (rI CDiv fun i j => .int (i / j)) (tVar 9) (tC (.int 8))) (tCons (tOp (rI (fun _ j => 0 < j) fun i j => .int (i % j)) (tVar 9) (tC (.int 8))) tNil)))) [9] σ H Q := by
  refine ⟨64, rfl, by decide, by decide, fun D nD => lc_it (walk_range (lo := 0) (n := 64)) (fun k H' => Same H H' ∧ ∃ as : List Addr, as.length ≤ k ∧ LegsAt H' as ∧ H' D = some (.lst (as.map V.ref))) ⟨same_upd nD, [], Nat.le_refl _, (fun _ h => nomatch h), upd_same⟩ (fun _ _ _ _ => trivial) (fun k x Ha Hb hk pv y => ?_) fun H' pv => ?_⟩
  · obtain ⟨sm, as, al, la, eD⟩ := pv
    obtain ⟨rfl, rfl⟩ := y
    have gi : ∀ x, ((wipe σ [9]).set 9 (some x))[9]? = some (some x) := fun x => set_get (by rw [wipe_length]; exact hi)
    have g3 : ∀ x, ((wipe σ [9]).set 9 x)[3]? = some (some (.str nm)) := fun x => by
      show ((σ.set 9 none).set 9 x)[3]? = _
      rw [List.getElem?_set_ne (by decide), List.getElem?_set_ne (by decide)]
      exact h3
    refine ⟨?_, _, gi _, _, _, rfl, rfl, ⟨by decide, by decide⟩, _, gi _, _, _, rfl, rfl, (by show (0 : Int) < 8; decide), rfl, _, rfl, ite2 (fun h => ?_) (fun h => ?_)⟩
    · show (((σ.set 9 none).set 9 _).set 9 none) = σ.set 9 none
      rw [List.set_set, List.set_set]
    · refine ⟨_, g3 _, _, gi _, _, _, rfl, rfl, ⟨by decide, by decide⟩, _, gi _, _, _, rfl, rfl, (by show (0 : Int) < 8; decide), (by show 3 ≤ sizeLine; decide), fun t nt => ?_⟩
      obtain ⟨st, et⟩ := nxo (o := .tup [.str nm, .int ((0 + (k : Int)) / 8), .int ((0 + (k : Int)) % 8)]) nt
      generalize upd Hb t (.tup [.str nm, .int ((0 + (k : Int)) / 8), .int ((0 + (k : Int)) % 8)]) = Hc at st et ⊢
      have hij : (0 + (k : Int)) / 8 ≠ (0 + (k : Int)) % 8 := fun e => by
        have h2 : decide (V.int ((0 + (k : Int)) / 8) = V.int ((0 + (k : Int)) % 8)) = false := by
          cases hd : decide (V.int ((0 + (k : Int)) / 8) = V.int ((0 + (k : Int)) % 8)) with
          | false => rfl
          | true =>
            have h3 : (!decide (V.int ((0 + (k : Int)) / 8) = V.int ((0 + (k : Int)) % 8))) = true := h
            rw [hd] at h3
            cases h3
        exact of_decide_eq_false h2 (congrArg V.int e)
      have eDc := st _ _ eD
      refine ⟨_, eDc, ?_, fun b o e => ?_, as ++ [t], ?_, fun a ha => ?_, ?_⟩
      · rw [List.length_map]
        exact len20k (by omega)
      · rw [upd_ne (ne_none e nD)]
        exact st _ _ (sm _ _ e)
      · rw [List.length_append]
        show as.length + 1 ≤ k + 1
        omega
      · have stay : ∀ a i j, LegAt Hc a i j → LegAt (upd Hc D (.lst (as.map V.ref ++ [.ref t]))) a i j := fun a i j h => by
          obtain ⟨⟨nm2, e⟩, r⟩ := h
          exact ⟨⟨nm2, by rw [upd_ne (ne_of e eDc (by intro z; cases z))]; exact e⟩, r⟩
        rcases List.mem_append.mp ha with h | h
        · obtain ⟨i, j, l, ne⟩ := la a h
          exact ⟨i, j, stay _ _ _ (l.same st), ne⟩
        · rw [List.mem_singleton.mp h]
          exact ⟨_, _, stay _ _ _ ⟨⟨nm, et⟩, by omega, by omega, by omega, by omega⟩, hij⟩
      · rw [upd_same, List.map_append]
        rfl
    · exact ⟨sm, as, by omega, la, eD⟩
  · obtain ⟨sm, as, al, la, eD⟩ := pv
    exact q _ _ as sm la eD
theorem seqForL_go {K : PySem.W.Frag} {t : TE} {g : TG} {tb tS : TS} {D : Ends} {σ : L2.St} {H : Hp} (h : t σ H fun x H1 => ∃ a, x = .ref a ∧ (∃ xs, SqL K H1 a xs) ∧ tFor (fun _ H R => R (Itl K a) H) g tb { D with nx := tS D } σ H1) : tSeq (tFor (iList K t) g tb) tS D σ H := h
structure SecOk (H : Hp) (p : Addr) (nm : Str) (ms : List Str) (ts : List Tri) : Prop where
  at_ : SecAt H p nm ms ts
  len : ms.length = ts.length + 1
  few : ms.length ≤ 8
  sh : ∀ y ∈ ms, Sh 8 y
  ok : ∀ t ∈ ts, TriOk t
theorem SecOk.same {H H' : Hp} {p : Addr} {nm : Str} {ms : List Str} {ts : List Tri} (h : SecOk H p nm ms ts) (s : Same H H') : SecOk H' p nm ms ts := ⟨h.at_.same s, h.len, h.few, h.sh, h.ok⟩
theorem SecOk.kp {d : Addr} {n : Nat} {H H' : Hp} {p : Addr} {nm : Str} {ms : List Str} {ts : List Tri} (h : SecOk H p nm ms ts) (dr : Dr H d n) (k : Kp d H H') : SecOk H' p nm ms ts := ⟨h.at_.kp dr k, h.len, h.few, h.sh, h.ok⟩
theorem SecOk.updL {H : Hp} {p r : Addr} {nm : Str} {ms : List Str} {ts : List Tri} {xs : List V} {o : HO} (h : SecOk H p nm ms ts) (e : H r = some (.lst xs)) : SecOk (upd H r o) p nm ms ts := by
  obtain ⟨⟨a, b, as, h1, h2, h3, h4⟩, r1, r2, r3, r4⟩ := h
  have st : ∀ {x : Addr} {ys : List V}, H x = some (.tup ys) → (upd H r o) x = some (.tup ys) := fun {x ys} hx => by
    rw [upd_ne (ne_of hx e (by intro z; cases z))]
    exact hx
  exact ⟨⟨a, b, as, st h1, st h2, st h3, h4.1, fun i x t g1 g2 => st (h4.2 i x t g1 g2)⟩, r1, r2, r3, r4⟩
def SecsOk (H : Hp) (ps : List Addr) (nm : Str) : Prop := ∀ p ∈ ps, ∃ ms ts, SecOk H p nm ms ts
/-- two sections -/
theorem lc_secs {σ : L2.St} {H : Hp} {Q : VK} {nm : Str} {d pp : Addr} {n : Nat} {ys : List Str} (h1 : σ[1]? = some (some (.ref d))) (h3 : σ[3]? = some (some (.str nm))) (h4 : σ[4]? = some (some (.ref pp))) (hi : 9 < σ.length) (dr : Dr H d n) (hn : n < 2 ^ 36) (ep : H pp = some (.lst (ys.map V.str))) (yne : ys ≠ []) (yl : ys.length ≤ 30) (ysh : ∀ y ∈ ys, Sh 8 y)
    (q : ∀ (H' : Hp) (D p1 p2 : Addr) (m1 m2 : List Str) (t1 t2 : List Tri), H D = none → Dr H' d (n + 120) → Kp d H H' → SecOk H' p1 nm m1 t1 → SecOk H' p2 nm m2 t2 → H' D = some (.lst [.ref p1, .ref p2]) → Q (.ref D) H') :
    tLc (iRng1 (tCons (tC (.int 2)) tNil)) (gName 9) tYes (tCall spSec [] E0 (tCons (tVar 1) (tCons (tVar 3) (tCons (tVar 4) tNil)))) [9] σ H Q := by
  refine ⟨2, rfl, by decide, by decide, fun D nD => lc_it (walk_range (lo := 0) (n := 2)) (fun k H' => ∃ ps : List Addr, ps.length = k ∧ SecsOk H' ps nm ∧ Dr H' d (n + 60 * k) ∧ Kp d H H' ∧ H' D = some (.lst (ps.map V.ref))) ⟨[], rfl, (fun _ h => nomatch h), dr.same (same_upd nD), Same.kp (same_upd nD), upd_same⟩ (fun _ _ _ _ => trivial) (fun k x Ha Hb hk pv y => ?_) fun H' pv => ?_⟩
  · obtain ⟨ps, pl, ok, dr', kp, eD⟩ := pv
    obtain ⟨rfl, rfl⟩ := y
    have gk : ∀ (j : Nat) (x : Option V) (y : Option V), j ≠ 9 → σ[j]? = some y → ((wipe σ [9]).set 9 x)[j]? = some y := fun j x y hj e => by
      show ((σ.set 9 none).set 9 x)[j]? = _
      rw [List.getElem?_set_ne (Ne.symm hj), List.getElem?_set_ne (Ne.symm hj)]
      exact e
    refine ⟨?_, ?_⟩
    · show (((σ.set 9 none).set 9 _).set 9 none) = σ.set 9 none
      rw [List.set_set, List.set_set]
    · dsimp only [tYes]
      rw [if_pos rfl]
      refine ⟨_, gk 1 _ _ (by decide) h1, _, gk 3 _ _ (by decide) h3, _, gk 4 _ _ (by decide) h4, d, pp, nm, ys, _, rfl, dr', by omega, kp.lst dr ep, yne, yl, ysh, fun p ms ts Hc np l1 l2 l3 l4 drc kc sa => ?_⟩
      have eDc := kc.lst dr' eD
      refine ⟨_, eDc, ?_, ps ++ [p], ?_, fun p' hp' => ?_, ?_, fun b o nb e => ?_, ?_⟩
      · rw [List.length_map, pl]
        exact len20k (by omega)
      · rw [List.length_append, pl]
        rfl
      · rcases List.mem_append.mp hp' with h | h
        · obtain ⟨ms', ts', so⟩ := ok p' h
          exact ⟨ms', ts', (so.kp dr' kc).updL eDc⟩
        · rw [List.mem_singleton.mp h]
          exact ⟨ms, ts, SecOk.updL ⟨sa, l1, l2, l3, l4⟩ eDc⟩
      · exact (drc.updL eDc refs_nint).mono (by omega)
      · rw [upd_ne (ne_none e nD)]
        exact kc b o nb (kp b o nb e)
      · rw [upd_same, List.map_append]
        rfl
  · obtain ⟨ps, pl, ok, dr', kp, eD⟩ := pv
    match ps, pl, ok, eD with
    | [p1, p2], _, ok, eD =>
      obtain ⟨m1, t1, o1⟩ := ok p1 (by simp)
      obtain ⟨m2, t2, o2⟩ := ok p2 (by simp)
      exact q H' D p1 p2 m1 m2 t1 t2 nD dr' kp o1 o2 eD
section
variable {P : Program} {w : World} {K : PySem.W.Frag} {mg : Str → Option Value} {base : Heap} {f : Addr} {fd : FuncData}
theorem ok_law {fM fS : Addr} {dM dS : FuncData} {sM sS : Stmt} {psM psS : List Str} (F : FnD K "law" sLaw [] f fd) (N : LK K mg) (FM : FnD K "measure" sM [] fM dM) (gM : mg "measure" = some (.ref fM)) (bM : Binds K dM psM []) (GM : FnOk P w K mg base CX0 2 fM dM psM spMeas)
    (FS : FnD K "steps_of" sS [] fS dS) (gS : mg "steps_of" = some (.ref fS)) (bS : Binds K dS psS []) (GS : FnOk P w K mg base CX0 1 fS dS psS spSteps) : FnG P w K mg base CX0 5 f fd ["_law_script"] (spLaw K) := by
  obtain ⟨fB, dB, FB, gB⟩ := N.fBegin
  obtain ⟨fX, dX, FX, gX⟩ := N.fMixed
  obtain ⟨fN, dN, FN, gN⟩ := N.fNext
  obtain ⟨fW, dW, FW, gW⟩ := N.fWords
  obtain ⟨fT, dT, FT, gT⟩ := N.fStr
  obtain ⟨fC, dC, FC, gC⟩ := N.fSec
  obtain ⟨fH, dH, FH, gH⟩ := N.fSt
  obtain ⟨fD, dD, FD, gD⟩ := N.fDue
  obtain ⟨fP, dP, FP, gP⟩ := N.fPt
  obtain ⟨fL, dL, FL, gL⟩ := N.fLr
  have gr := N.gRange
  have gl := N.gLen
  have gp := N.gRepr
  have GB : FnOk P w K mg base CX0 1 fB dB ["_law_script"] (spBegin K) := ok_begin FB
  have GN : FnOk P w K mg base CX0 2 fN dN ["_law_draw", "_law_many"] spNext := ok_next FN FX gX gl
  have GW : FnOk P w K mg base CX0 3 fW dW ["_law_draw", "_law_many"] spWords := ok_words FW gl gr FN gN GN
  have GT : FnOk P w K mg base CX0 3 fT dT ["_law_draw"] spStr := ok_str FT FN gN GN
  have GC : FnOk P w K mg base CX0 4 fC dC ["_law_draw", "_law_name", "_law_pool"] spSec := ok_sec FC gl gr N.gTuple FN gN GN FT gT GT
  have GH : FnOk P w K mg base CX0 1 fH dH ["_law_leg"] spSteps := ok_lsteps FH N.gMin N.gMax gr
  have GD : FnOk P w K mg base CX0 1 fD dD ["_law_section_here", "_law_leg"] spMeas := ok_due FD N.gMin N.gMax gl N.gSum
  have GP : FnOk P w K mg base CX0 3 fP dP ["_law_section_here", "_law_leg"] spParts := ok_parts FP N.gMin N.gMax gr N.gTuple FM gM bM GM
  have GL : FnG P w K mg base CX0 3 fL dL ["_law_section_here", "_law_leg"] spLr := ok_legr FL gp FM gM bM GM FS gS bS GS FH gH GH FD gD GD
  have bB : Binds K dB ["_law_script"] [] := FB.bindsN fun _ _ _ _ _ _ us hl => match us, hl with | [_], _ => rfl
  have bN : Binds K dN ["_law_draw", "_law_many"] [] := FN.bindsN fun _ _ _ _ _ _ us hl => match us, hl with | [_, _], _ => rfl
  have bW : Binds K dW ["_law_draw", "_law_many"] [] := FW.bindsN fun _ _ _ _ _ _ us hl => match us, hl with | [_, _], _ => rfl
  have bC : Binds K dC ["_law_draw", "_law_name", "_law_pool"] [] := FC.bindsN fun _ _ _ _ _ _ us hl => match us, hl with | [_, _, _], _ => rfl
  have bP : Binds K dP ["_law_section_here", "_law_leg"] [] := FP.bindsN fun _ _ _ _ _ _ us hl => match us, hl with | [_, _], _ => rfl
  have bL : Binds K dL ["_law_section_here", "_law_leg"] [] := FL.bindsN fun _ _ _ _ _ _ us hl => match us, hl with | [_, _], _ => rfl
  refine fnG_of F scLaw (fun vs H Q E h => ?_) (fun cdv A outer s0 H vs Q E gd hr h => ?_)
  · obtain ⟨a, ns, rfl, _⟩ := h
    rfl
  · obtain ⟨a, ns, rfl, hS, hlen, q⟩ := h
    have hr1 := hr.mono (show 1 ≤ 4 by decide)
    have hr2 := hr.mono (show 2 ≤ 4 by decide)
    have hr3 := hr.mono (show 3 ≤ 4 by decide)
    refine ⟨_, PSs.nox (pss_cons (ps_set (i := 1) scLaw.nd rfl (.inr rfl) (pe_call GB hr1 rfl gB FB.kp bB .nil pass0 (pa_cons (pv 0) pa_nil))) (pss_cons (ps_for PassesOwn.never rfl (pi_range1 rfl gr (pa_cons (pe_op op_add pe_int (pe_call GN hr2 rfl gN FN.kp bN .nil pass0 (pa_cons (pv 1) (pa_cons pe_int pa_nil)))) pa_nil)) (pg_name (i := 2) scLaw.nd rfl (.inl rfl)) (pss_cons (ps_asg (pe_tup (pa_cons (pe_ix ix_list (pe_call GW hr3 rfl gW FW.kp bW .nil pass0 (pa_cons (pv 1) (pa_cons pe_int pa_nil))) pe_int (fun _ _ => rfl)) (pa_cons (pe_call GW hr3 rfl gW FW.kp bW .nil pass0 (pa_cons (pv 1) (pa_cons (pe_op op_add pe_int (pe_call GN hr2 rfl gN FN.kp bN .nil pass0 (pa_cons (pv 1) (pa_cons pe_int pa_nil)))) pa_nil))) pa_nil))) (pg_tup rfl (pgs_cons (pg_name (i := 3) scLaw.nd rfl (.inr rfl)) (pgs_cons (pg_name (i := 4) scLaw.nd rfl (.inr rfl)) pgs_nil)))) (pss_cons (ps_setLc (i := 5) (own := [("_law_k", 9)]) (g := gName 9) (tt := tYes) (te := tCall spSec [] E0 (tCons (tVar 1) (tCons (tVar 3) (tCons (tVar 4) tNil)))) rfl scLaw.nd rfl rfl (sw_true rfl rfl rfl (by decide +kernel)) (pi_range1 rfl gr (pa_cons pe_int pa_nil)) (blkOk_by (N := nLaw) (sc := defScope sLaw) (by decide +kernel)) (fun _ _ _ _ _ => pg_name (i := 9) scLaw.nd rfl (.inl rfl)) (fun _ _ _ _ _ => pts_nil) (fun _ _ _ _ _ => (pe_call GC hr rfl gC FC.kp bC .nil pass0 (pa_cons (pv 1) (pa_cons (pv 3) (pa_cons (pv 4) pa_nil)))))) (pss_cons (ps_set (i := 6) scLaw.nd rfl (.inl rfl) (pe_callB (call_repr gd hr) rfl gp boot_repr (pa_cons (pv 5) pa_nil))) (pss_cons (ps_for PassesOwn.never rfl (pi_list (pe_lc (own := [("_law_k", 9)]) (g := gName 9) (tt := tTest (tOp rNe (tOp (rI CDiv fun i j => .int (i / j)) (tVar 9) (tC (.int 8))) (tOp (rI (fun _ j => 0 < j) fun i j => .int (i % j)) (tVar 9) (tC (.int 8))))) (te := tTup (tCons (tVar 3) (tCons (tOp (rI CDiv fun i j => .int (i / j)) (tVar 9) (tC (.int 8))) (tCons (tOp (rI (fun _ j => 0 < j) fun i j => .int (i % j)) (tVar 9) (tC (.int 8))) tNil)))) rfl scLaw.nd (pi_range1 rfl gr (pa_cons pe_int pa_nil)) (blkOk_by (N := nLaw) (sc := defScope sLaw) (by decide +kernel)) (fun _ _ _ _ _ => pg_name (i := 9) scLaw.nd rfl (.inl rfl)) (fun _ _ _ _ _ => (pts_one (pt_cmpR op_ne (pe_op op_fdiv (pv 9) pe_int) (pe_op op_mod (pv 9) pe_int) (nomark _)))) (fun _ _ _ _ _ => (pe_tup (pa_cons (pv 3) (pa_cons (pe_op op_fdiv (pv 9) pe_int) (pa_cons (pe_op op_mod (pv 9) pe_int) pa_nil))))))) (pg_name (i := 7) scLaw.nd rfl (.inl rfl)) (pss_one (ps_for PassesOwn.never rfl (pi_list (pv 5)) (pg_name (i := 8) scLaw.nd rfl (.inl rfl)) (pss_one (ps_if (pt_not (pt_val (pe_callG GL gd (hr.mono (by decide)) rfl gL FL.kp bL .nil pass0 (pa_cons (pv 8) (pa_cons (pv 7) pa_nil))))) (pss_one (ps_ret pe_bl)) pss_nil))))) (pss_cons (ps_set (i := 7) scLaw.nd rfl (.inl rfl) (pe_tup (pa_cons (pv 3) (pa_cons (pe_op op_mul (pe_call GN hr2 rfl gN FN.kp bN .nil pass0 (pa_cons (pv 1) (pa_cons pe_int pa_nil))) (pe_op op_sub (pe_callB call_len_seq rfl gl PySem.boot_len (pa_cons (pe_ix ix_tup (pe_ix ix_list (pv 5) pe_int (fun _ _ => rfl)) pe_int (fun _ _ => rfl)) pa_nil)) pe_int)) (pa_cons pe_int pa_nil))))) (pss_cons (ps_set (i := 7) scLaw.nd rfl (.inl rfl) (pe_ifExp (pt_cmpR op_gt (pe_ix ix_tup (pv 7) pe_int (fun _ _ => rfl)) pe_int (nomark _)) (pv 7) (pe_tup (pa_cons (pv 3) (pa_cons pe_int (pa_cons (pe_op op_sub (pe_callB call_len_seq rfl gl PySem.boot_len (pa_cons (pe_ix ix_tup (pe_ix ix_list (pv 5) pe_int (fun _ _ => rfl)) pe_int (fun _ _ => rfl)) pa_nil)) pe_int) pa_nil)))))) (pss_one (ps_if (PW.pt (pw_or (pt_not (pt_val (pe_call GP (hr.mono (by decide)) rfl gP FP.kp bP .nil pass0 (pa_cons (pe_ix ix_list (pv 5) pe_int (fun _ _ => rfl)) (pa_cons (pv 7) pa_nil))))) (pw_or1 (pt_cmpR op_ne (pe_callB (call_repr gd hr) rfl gp boot_repr (pa_cons (pv 5) pa_nil)) (pv 6) (nomark _))))) (pss_one (ps_ret pe_bl)) pss_nil))))))))) (pss_one (ps_ret pe_bl)))), ?_⟩
    dsimp only [cxOf]
    refine ⟨_, rfl, a, ns, rfl, hS, hlen, fun H1 d c nc nd dr keep => ?_⟩
    refine gName_go ?_
    try dsimp only
    refine ⟨_, rfl, d, 2, 0, rfl, dr, by decide, by decide, by decide, fun v0 Ha p0 q0 dra ba => ⟨_, _, rfl, rfl, _, rfl, by omega, by omega, ?_⟩⟩
    refine for_range (lo := 0) (n := _) (fun i σ H' => ∃ y2 y3 y4 y5 y6 y7 y8, σ = [some (.ref a), some (.ref d), y2, y3, y4, y5, y6, y7, y8, none] ∧ Dr H' d (500 * i + 1)) ⟨none, none, none, none, none, none, none, rfl, dra⟩ (fun i σ H' hi z => ?_) (fun σ H' z => q _)
    obtain ⟨y2, y3, y4, y5, y6, y7, y8, rfl, dr0⟩ := z
    have hi2 : i ≤ 2 := by omega
    clear hi
    -- the name
    refine ⟨_, rfl, d, 1, _, rfl, dr0, by omega, by decide, fun r1 ys1 H2 nr1 yl1 ysh1 dr1 k1 er1 => ?_⟩
    obtain ⟨nm, rfl⟩ : ∃ nm, ys1 = [nm] := by
      match ys1, yl1 with
      | [nm], _ => exact ⟨nm, rfl⟩
    have nsh := ysh1 nm (by simp)
    refine ⟨r1, _, 0, _, rfl, rfl, .of er1, rfl, ?_⟩
    -- the pool
    refine ⟨_, rfl, _, rfl, d, 8, _, rfl, dr1, by decide, by decide, by omega, fun v2 H3 p2 q2 dr2 b2 => ⟨_, _, rfl, rfl, ?_⟩⟩
    obtain ⟨k2, rfl⟩ : ∃ k2 : Nat, v2 = (k2 : Int) := ⟨_, (Int.toNat_of_nonneg p2).symm⟩
    refine ⟨d, 2 + k2, _, (show [V.ref d, V.int (2 + (k2 : Int))] = [V.ref d, .int ((2 + k2 : Nat) : Int)] from by rw [Int.natCast_add]; rfl), dr2, by omega, by omega, fun pp ys H4 npp yl ysh dr4 k4 ep => ⟨(by show 2 ≤ sizeLine; decide), fun tp ntp => ?_⟩⟩
    obtain ⟨s5, e5⟩ := nxo (o := .tup [.str nm, .ref pp]) ntp
    have dr5 := dr4.same s5
    have ep5 := s5 _ _ ep
    generalize upd H4 tp (.tup [.str nm, .ref pp]) = H5 at s5 e5 dr5 ep5 ⊢
    refine ⟨tp, _, rfl, .of e5, rfl, _, _, rfl, _, _, rfl, rfl, ?_⟩
    try dsimp only
    have yne : ys ≠ [] := fun e => by
      rw [e] at yl
      simp at yl
      omega
    -- two sections
    refine asg_go (lc_secs (σ := [some (.ref a), some (.ref d), some (.int (0 + (i : Nat))), some (.str nm), some (.ref pp), y5, y6, y7, y8, none]) rfl rfl rfl (Nat.lt_of_sub_eq_succ rfl) (dr5.mono (m := 500 * i + 300) (by omega)) (by omega) ep5 yne (by omega) ysh fun H6 D p1 p2 m1 m2_ t1 t2 nD dr6 k6 o1 o2 eD => gName_go ?_)
    have shown : ∀ H', Same H6 H' → Dp K H' (.ref D) (.list [secD nm m1 t1, secD nm m2_ t2]) := fun H' s => .lst (.of (s _ _ eD)) (.cons (o1.at_.same s).dp (.cons (o2.at_.same s).dp .nil))
    have l1 := o1.len
    have l2 := o2.len
    have f1 := o1.few
    have f2 := o2.few
    obtain ⟨w1, w2, w3, w4⟩ := (Sm.lst (.cons (sm_sec nsh o1.sh o1.ok f1 (by omega)) (.cons (sm_sec nsh o2.sh o2.ok f2 (by omega)) .nil))).ok (by decide) (by decide)
    refine ⟨_, rfl, D, _, rfl, shown H6 (Same.refl _), w1, w2, w3, w4, ?_⟩
    obtain ⟨bf, hbf⟩ : ∃ b, b = (PyData.list [secD nm m1 t1, secD nm m2_ t2]).shown := ⟨_, rfl⟩
    rw [← hbf]
    refine gName_go ?_
    try dsimp only
    -- all legs
    refine seqForL_go (lc_legs (σ := [some (.ref a), some (.ref d), some (.int (0 + (i : Nat))), some (.str nm), some (.ref pp), some (.ref D), some (.str bf), y7, y8, none]) rfl (Nat.lt_of_sub_eq_succ rfl) fun H7 LL as s7 la eL => ⟨LL, rfl, ⟨_, .of eL⟩, ?_⟩)
    refine for_it (walk_list (K := K) (a := LL) (xs := as.map V.ref)) (fun m σ H' => Same H7 H' ∧ ∃ z7 z8, σ = [some (.ref a), some (.ref d), some (.int (0 + (i : Nat))), some (.str nm), some (.ref pp), some (.ref D), some (.str bf), z7, z8, none]) ⟨Same.refl _, _, _, rfl⟩ (fun m σ H' _ pv => .of (pv.1 _ _ eL)) (fun m x σ Hx Hy hm pv hx => ?_) fun σ Hx pv => ?_
    · obtain ⟨sm, z7, z8, rfl⟩ := pv
      obtain ⟨rfl, gx⟩ := hx
      rw [List.getElem?_map] at gx
      obtain ⟨lg, glg, rfl⟩ := Option.map_eq_some_iff.mp gx
      obtain ⟨li, lj, lat, lne⟩ := la lg (List.mem_of_getElem? glg)
      have s67 := s7.trans sm
      have eDx := s67 _ _ eD
      refine ⟨_, rfl, D, rfl, ⟨_, .of eDx⟩, for_it (walk_list (K := K) (a := D) (xs := [.ref p1, .ref p2])) (fun m2 σ H' => Same Hy H' ∧ ∃ z8, σ = [some (.ref a), some (.ref d), some (.int (0 + (i : Nat))), some (.str nm), some (.ref pp), some (.ref D), some (.str bf), some (.ref lg), z8, none]) ⟨Same.refl _, _, rfl⟩ (fun m2 σ H' _ pv => .of (pv.1 _ _ eDx)) (fun m2 x σ Hu Hv hm2 pv hx => ?_) fun σ Hu pv => ?_⟩
      · obtain ⟨sn, z8', rfl⟩ := pv
        obtain ⟨rfl, gx2⟩ := hx
        have sall := s67.trans sn
        have lat2 := (lat.same sm).same sn
        match m2, hm2, gx2 with
        | 0, _, gx2 =>
          cases gx2
          exact ⟨_, rfl, _, rfl, p1, lg, nm, m1, t1, li, lj, rfl, o1.at_.same sall, o1.len, o1.ok, by omega, lat2, lne, fun H' s' => ⟨_, rfl, iteF ⟨sn.trans s', _, rfl⟩⟩⟩
        | 1, _, gx2 =>
          cases gx2
          exact ⟨_, rfl, _, rfl, p2, lg, nm, m2_, t2, li, lj, rfl, o2.at_.same sall, o2.len, o2.ok, by omega, lat2, lne, fun H' s' => ⟨_, rfl, iteF ⟨sn.trans s', _, rfl⟩⟩⟩
      · obtain ⟨sn, z8', rfl⟩ := pv
        exact ⟨sm.trans sn, _, _, rfl⟩
    · obtain ⟨sm, z7, z8, rfl⟩ := pv
      have s67 := s7.trans sm
      have drx := dr6.same s67
      have eDx := s67 _ _ eD
      obtain ⟨ta, tb, tas, g1, g2, g3, g4⟩ := o1.at_.same s67
      refine ⟨_, rfl, _, rfl, d, 2, _, rfl, drx, by decide, by decide, by omega, fun v8 H8 p8 q8 dr8 b8 => ?_⟩
      have eD8 := b8.kp.lst drx eDx
      have g18 := b8.kp.tup drx g1
      have g28 := b8.kp.tup drx g2
      refine ⟨_, rfl, D, _, 0, _, rfl, rfl, .of eD8, rfl, p1, _, 1, _, rfl, rfl, .of g18, rfl, ta, _, rfl, .inr (.of g28), _, _, rfl, rfl, _, _, rfl, rfl, .inl ⟨by omega, by omega⟩, (by show 3 ≤ sizeLine; decide), fun tl_ ntl => ?_⟩
      have hL : (m1.map V.str).length = m1.length := List.length_map _
      obtain ⟨u9, w9⟩ := nxo (o := .tup [.str nm, .int (v8 * ((((m1.map V.str).length : Nat) : Int) - 1)), .int 0]) ntl
      have k79 : Kp d Hx (upd H8 tl_ (.tup [.str nm, .int (v8 * ((((m1.map V.str).length : Nat) : Int) - 1)), .int 0])) := b8.kp.trans (Same.kp u9)
      have dr9 := dr8.same u9
      generalize upd H8 tl_ (.tup [.str nm, .int (v8 * ((((m1.map V.str).length : Nat) : Int) - 1)), .int 0]) = H9 at u9 w9 k79 dr9 ⊢
      refine gName_go ?_
      try dsimp only
      have shown9 : ∀ H', Same H9 H' → Dp K H' (.ref D) (.list [secD nm m1 t1, secD nm m2_ t2]) := fun H' s' => .lst (.of (s' _ _ (k79.lst drx eDx))) (.cons (((o1.at_.same s67).kp drx k79).same s').dp (.cons (((o2.at_.same s67).kp drx k79).same s').dp .nil))
      have rest : ∀ (Ha : Hp) (lg : Addr) (i' j' : Int) (D' : Ends), (∀ H', Dr H' d (500 * (i + 1) + 1) → D'.nx [some (.ref a), some (.ref d), some (.int (0 + (i : Nat))), some (.str nm), some (.ref pp), some (.ref D), some (.str bf), some (.ref lg), z8, none] H') → Same H9 Ha → LegAt Ha lg i' j' → hiI i' j' ≤ t1.length →
          tIfS (tOr (tNot (tB (tCall spParts [] E0 (tCons (tOp (rIxL K) (tVar 5) (tC (.int 0))) (tCons (tVar 7) tNil))))) (tTest (tOp rNe (tCB (rRepr K) (tCons (tVar 5) tNil)) (tVar 6)))) (tRet (tC (.bl false))) tNext D' [some (.ref a), some (.ref d), some (.int (0 + (i : Nat))), some (.str nm), some (.ref pp), some (.ref D), some (.str bf), some (.ref lg), z8, none] Ha := fun Ha lg i' j' D' hD sa lat hh => by
        refine ⟨_, rfl, D, _, 0, _, rfl, rfl, .of (sa _ _ (k79.lst drx eDx)), rfl, _, rfl, p1, lg, nm, m1, t1, i', j', rfl, ((o1.at_.same s67).kp drx k79).same sa, o1.len, by omega, lat, hh, fun Hb sb => ⟨_, rfl, iteF ?_⟩⟩
        refine ⟨_, rfl, D, _, rfl, shown9 _ (sa.trans sb), w1, w2, w3, w4, _, rfl, rfl, _, rfl, ?_⟩
        rw [← hbf, decide_eq_true rfl]
        exact iteF (hD Hb ((dr9.same (sa.trans sb)).mono (by omega)))
      refine ⟨_, rfl, tl_, _, 1, _, rfl, rfl, .of w9, rfl, _, _, rfl, rfl, _, rfl, ite2 (fun hgt => ?_) (fun hle => ?_)⟩
      · refine ⟨_, rfl, gName_go ?_⟩
        have vb : v8 = 0 ∨ v8 = 1 := by omega
        refine rest H9 tl_ (v8 * ((((m1.map V.str).length : Nat) : Int) - 1)) 0 _ (fun H' drn => ⟨_, _, _, _, _, _, _, rfl, drn⟩) (Same.refl _) ⟨⟨nm, w9⟩, ?_, ?_, by decide, by decide⟩ ?_
        · rw [hL]
          rcases vb with e | e <;> rw [e] <;> omega
        · rw [hL]
          rcases vb with e | e <;> rw [e] <;> omega
        · unfold hiI
          rw [hL]
          rcases vb with e | e <;> rw [e] <;> split <;> omega
      · refine ⟨_, rfl, _, rfl, D, _, 0, _, rfl, rfl, .of (k79.lst drx eDx), rfl, p1, _, 1, _, rfl, rfl, .of (k79.tup drx g1), rfl, ta, _, rfl, .inr (.of (k79.tup drx g2)), _, _, rfl, rfl, (by show 3 ≤ sizeLine; decide), fun t10 n10 => gName_go ?_⟩
        refine rest _ t10 0 ((((m1.map V.str).length : Nat) : Int) - 1) _ (fun H' drn => ⟨_, _, _, _, _, _, _, rfl, drn⟩) (same_upd n10) ⟨⟨nm, upd_same⟩, by decide, by decide, ?_, ?_⟩ ?_
        · rw [hL]; omega
        · rw [hL]; omega
        · unfold hiI
          rw [hL]
          split <;> omega
end
end Pb

namespace Pb
open PySem PySem.Spec PyProof.Rows L2 TL
/-! ### the program's steps_of, measure -/
structure BGk (mg : Str → Option Value) : Prop where
  len : mg "len" = none
  range : mg "range" = none
  max : mg "max" = none
theorem bt_maxk : bootBuiltins "max" = some (.builtin "max") := by decide +kernel
abbrev s_steps_of : Stmt := top 1
abbrev n_steps_of : List Str := ["leg", "name", "i", "j", "k"]
abbrev p_steps_of : List Str := ["leg"]
theorem sc_steps_of : FnScope n_steps_of p_steps_of (defScope s_steps_of) := ⟨rfl, rfl, rfl, by decide +kernel, rfl, by decide +kernel, by decide +kernel⟩
abbrev s_reaches : Stmt := top 2
abbrev n_reaches : List Str := ["section", "leg"]
abbrev p_reaches : List Str := ["section", "leg"]
theorem sc_reaches : FnScope n_reaches p_reaches (defScope s_reaches) := ⟨rfl, rfl, rfl, by decide +kernel, rfl, by decide +kernel, by decide +kernel⟩
abbrev s_measure : Stmt := top 3
abbrev n_measure : List Str := ["section", "leg", "length", "climb", "fall", "k", "forth", "far", "up", "down"]
abbrev p_measure : List Str := ["section", "leg"]
theorem sc_measure : FnScope n_measure p_measure (defScope s_measure) := ⟨rfl, rfl, rfl, by decide +kernel, rfl, by decide +kernel, by decide +kernel⟩
/-- a comprehension over a range with a step, of steps -/
theorem lc_stpC {te : TE} {i c : Nat} {lo cc : Int} {σ : L2.St} {H1 : Hp} {Q : VK} {f : Nat → Stp} (hi : i < σ.length) (hc : c ≤ 1000)
    (step : ∀ (k : Nat) (H' : Hp) (Q' : VK), k < c → Same H1 H' → (∀ a H'', H' a = none → Same H' H'' → H'' a = some (.tup (stpV (f k))) → Q' (.ref a) H'') → te ((wipe σ [i]).set i (some (.int (lo + (k : Nat) * cc)))) H' Q')
    (q : ∀ (D : Addr) (H' : Hp) (as : List Addr), H1 D = none → Same H1 H' → H' D = some (.lst (as.map V.ref)) → StpsAt H' as ((List.range c).map f) → Q (.ref D) H') :
    tLc (fun _ H R => R (Itc lo cc c) H) (gName i) tYes te [i] σ H1 Q := by
  intro D nD
  refine lc_it walk_rangeC (fun m H' => Same H1 H' ∧ ∃ as : List Addr, as.length = m ∧ H' D = some (.lst (as.map V.ref)) ∧ StpsAt H' as ((List.range m).map f)) ⟨same_upd nD, [], rfl, upd_same, rfl, fun _ _ _ h => nomatch h⟩ (fun _ _ _ _ => trivial) (fun m x Ha Hb hm pv y => ?_) fun H' pv => ?_
  · obtain ⟨sm, as, al, eD, st⟩ := pv
    obtain ⟨rfl, rfl⟩ := y
    refine ⟨?_, ?_⟩
    · show (((σ.set i none).set i _).set i none) = σ.set i none
      rw [List.set_set, List.set_set]
    · dsimp only [tYes]
      rw [if_pos rfl]
      refine step m Hb _ hm sm fun a Hc na sc ea => ⟨_, sc _ _ eD, ?_, fun b o e => ?_, as ++ [a], ?_, ?_, ?_⟩
      · rw [List.length_map, al]
        exact len20k (by omega)
      · rw [upd_ne (ne_none e nD)]
        exact sc _ _ (sm _ _ e)
      · rw [List.length_append, al]
        rfl
      · rw [upd_same, List.map_append]
        rfl
      · rw [List.range_succ, List.map_append]
        exact ((st.same sc).snoc ea).updL (sc _ _ eD)
  · obtain ⟨sm, as, al, eD, st⟩ := pv
    exact q D H' as nD sm eD st
section
variable {P : Program} {w : World} {K : PySem.W.Frag} {mg : Str → Option Value} {base : Heap} {f : Addr} {fd : FuncData}
theorem ok_psteps (F : FnD K "steps_of" s_steps_of [] f fd) (B : BGk mg) : FnOk P w K mg base CX0 1 f fd p_steps_of spSteps := by
  refine F.ok sc_steps_of (fun vs H Q E h => ?_) (fun cdv A outer s H vs Q E hr h => ?_)
  · obtain ⟨l, i, j, rfl, _⟩ := h
    rfl
  · obtain ⟨l, i, j, rfl, ⟨⟨nm, el⟩, i0, i7, j0, j7⟩, hij, q⟩ := h
    refine ⟨_, PSs.nox (pss_cons (ps_asg (pv 0) (pg_tup rfl (pgs_cons (pg_name (i := 1) sc_steps_of.nd rfl (.inl rfl)) (pgs_cons (pg_name (i := 2) sc_steps_of.nd rfl (.inl rfl)) (pgs_cons (pg_name (i := 3) sc_steps_of.nd rfl (.inl rfl)) pgs_nil))))) (pss_cons (ps_if (pt_cmpR op_lt (pv 2) (pv 3) (nomark _)) (pss_one (ps_ret (pe_lc (own := [("k", 4)]) (g := gName 4) (tt := tYes) (te := tTup (tCons (tVar 4) (tCons (tC (.bl true)) (tNil)))) rfl sc_steps_of.nd (pi_range2 rfl B.range (pa_cons (pv 2) (pa_cons (pv 3) pa_nil))) (blkOk_by (N := n_steps_of) (sc := defScope s_steps_of) (by decide +kernel)) (fun _ _ _ _ _ => (pg_name (i := 4) sc_steps_of.nd rfl (.inl rfl))) (fun _ _ _ _ _ => pts_nil) (fun _ _ _ _ _ => (pe_tup (pa_cons (pv 4) (pa_cons pe_bl pa_nil))))))) pss_nil) (pss_one (ps_ret (pe_lc (own := [("k", 4)]) (g := gName 4) (tt := tYes) (te := tTup (tCons (tVar 4) (tCons (tC (.bl false)) (tNil)))) rfl sc_steps_of.nd (pi_range3 rfl B.range (pa_cons (pe_op op_sub (pv 2) pe_int) (pa_cons (pe_op op_sub (pv 3) pe_int) (pa_cons (pe_un un_neg pe_int) pa_nil)))) (blkOk_by (N := n_steps_of) (sc := defScope s_steps_of) (by decide +kernel)) (fun _ _ _ _ _ => (pg_name (i := 4) sc_steps_of.nd rfl (.inl rfl))) (fun _ _ _ _ _ => pts_nil) (fun _ _ _ _ _ => (pe_tup (pa_cons (pv 4) (pa_cons pe_bl pa_nil))))))))), ?_⟩
    dsimp only [cxOf]
    refine ⟨_, rfl, l, _, rfl, .of el, rfl, _, _, rfl, _, _, rfl, _, _, rfl, rfl, ?_⟩
    try dsimp only
    refine ⟨_, rfl, _, rfl, _, _, rfl, rfl, _, rfl, ?_⟩
    by_cases hlt : i < j
    · rw [decide_eq_true hlt]
      refine iteT ⟨_, rfl, _, rfl, _, _, rfl, ⟨by omega, by omega, by omega, by omega⟩, ?_⟩
      refine lc_stp (te := tTup (tCons (tVar 4) (tCons (tC (.bl true)) tNil))) (i := 4) (f := fun k => (i + (k : Nat), true)) (Q := Q) (σ := [some (.ref l), some (.str nm), some (.int i), some (.int j), none]) (Nat.lt_of_sub_eq_succ rfl) (by omega) (fun k H' Q' hk sm q' => ?_) fun D H' as nD sm eD st => ?_
      · refine ⟨_, rfl, (by show 2 ≤ sizeLine; decide), fun t nt => ?_⟩
        exact q' t _ nt (same_upd nt) upd_same
      · have : stepsL i j = (List.range (j - i).toNat).map fun k => (i + (k : Nat), true) := by
          unfold stepsL
          rw [if_pos hlt]
        exact q H' D as sm nD eD (by rw [this]; exact st)
    · rw [decide_eq_false hlt]
      refine iteF ⟨_, rfl, _, _, rfl, rfl, _, rfl, _, _, rfl, rfl, _, rfl, _, _, _, _, rfl, RgC.neg (by omega) (by omega) (by omega) (by omega), ?_⟩
      refine lc_stpC (te := tTup (tCons (tVar 4) (tCons (tC (.bl false)) tNil))) (i := 4) (f := fun k => (i - 1 - (k : Nat), false)) (Q := Q) (σ := [some (.ref l), some (.str nm), some (.int i), some (.int j), none]) (Nat.lt_of_sub_eq_succ rfl) (by omega) (fun k H' Q' hk sm q' => ?_) fun D H' as nD sm eD st => ?_
      · refine ⟨_, rfl, (by show 2 ≤ sizeLine; decide), fun t nt => ?_⟩
        have e : i - 1 + (k : Nat) * (-1) = i - 1 - (k : Nat) := by omega
        rw [e]
        exact q' t _ nt (same_upd nt) upd_same
      · have : stepsL i j = (List.range (i - 1 - (j - 1)).toNat).map fun k => (i - 1 - (k : Nat), false) := by
          unfold stepsL
          rw [if_neg hlt]
          congr 2
          omega
        exact q H' D as sm nD eD (by rw [this]; exact st)
def spReach : Sp := fun vs H Q _ => ∃ (p l : Addr) (nm : Str) (ms : List Str) (ts : List Tri) (i j : Int), vs = [.ref p, .ref l] ∧ SecAt H p nm ms ts ∧ LegAt H l i j ∧ Q (.bl (decide (hiI i j < ms.length))) H
theorem ok_reach (F : FnD K "reaches" s_reaches [] f fd) (B : BGk mg) : FnOk P w K mg base CX0 1 f fd p_reaches spReach := by
  refine F.ok sc_reaches (fun vs H Q E h => ?_) (fun cdv A outer s H vs Q E hr h => ?_)
  · obtain ⟨p, l, nm, ms, ts, i, j, rfl, _⟩ := h
    rfl
  · obtain ⟨p, l, nm, ms, ts, i, j, rfl, ⟨a, b, as, ep, ea, eb, ht⟩, ⟨⟨nm2, el⟩, i0, i7, j0, j7⟩, q⟩ := h
    have bt_max := bt_maxk
    refine ⟨_, PSs.nox (pss_one (ps_ret (pe_cmpR op_lt (pe_callB (call_max2 rfl) rfl B.max bt_max (pa_cons (pe_ix ix_tup (pv 1) pe_int (fun _ _ => rfl)) (pa_cons (pe_ix ix_tup (pv 1) pe_int (fun _ _ => rfl)) pa_nil))) (pe_callB call_len_seq rfl B.len PySem.boot_len (pa_cons (pe_ix ix_tup (pv 0) pe_int (fun _ _ => rfl)) pa_nil)) (nomark _)))), ?_⟩
    dsimp only [cxOf]
    refine ⟨_, rfl, l, _, _, _, rfl, rfl, .of el, rfl, _, rfl, l, _, _, _, rfl, rfl, .of el, rfl, _, _, rfl, _, rfl, p, _, _, _, rfl, rfl, .of ep, rfl, a, _, rfl, .inr (.of ea), _, _, rfl, rfl, ?_⟩
    rw [List.length_map]
    exact q
end
end Pb

namespace Pb
open PySem PySem.Spec PyProof.Rows L2 TL
/-! ### the program's measure -/
def swT (t : Tri) : Tri := (t.1, t.2.2, t.2.1)
def rowAt (ts : List Tri) (s : Stp) : Tri := if s.2 = true then (ts[s.1.toNat]?).getD (0, 0, 0) else swT ((ts[s.1.toNat]?).getD (0, 0, 0))
def sumT (ts : List Tri) : Tri := ((ts.map fun t => t.1).sum, (ts.map fun t => t.2.1).sum, (ts.map fun t => t.2.2).sum)
theorem sumT_snoc (ts : List Tri) (t : Tri) : sumT (ts ++ [t]) = ((sumT ts).1 + t.1, (sumT ts).2.1 + t.2.1, (sumT ts).2.2 + t.2.2) := by
  unfold sumT
  simp
theorem stepsL_in {ts : List Tri} {i j : Int} (i0 : 0 ≤ i) (j0 : 0 ≤ j) (h : hiI i j ≤ ts.length) {k : Nat} {s : Stp} (g : (stepsL i j)[k]? = some s) : 0 ≤ s.1 ∧ s.1 < ts.length := by
  unfold stepsL at g
  unfold hiI at h
  split at g
  · rw [List.getElem?_map] at g
    obtain ⟨x, gx, rfl⟩ := Option.map_eq_some_iff.mp g
    have := List.mem_range.mp (List.mem_of_getElem? gx)
    dsimp only
    split at h <;> omega
  · rw [List.getElem?_map] at g
    obtain ⟨x, gx, rfl⟩ := Option.map_eq_some_iff.mp g
    have := List.mem_range.mp (List.mem_of_getElem? gx)
    dsimp only
    split at h <;> omega
theorem rows_fwd {ts : List Tri} {i j : Int} (i0 : 0 ≤ i) (hij : i < j) (h : hiI i j ≤ ts.length) : (stepsL i j).map (rowAt ts) = cutT ts i j := by
  have e1 : loI i j = i := by unfold loI; rw [if_neg (by omega)]
  have e2 : hiI i j = j := by unfold hiI; rw [if_pos hij]
  rw [e2] at h
  unfold stepsL cutT
  rw [if_pos hij, e1, e2, List.map_map]
  apply List.ext_getElem?
  intro k
  rw [List.getElem?_map, List.getElem?_take, List.getElem?_drop]
  by_cases hk : k < (j - i).toNat
  · rw [List.getElem?_range hk, if_pos (by omega)]
    have hlt : i.toNat + k < ts.length := by omega
    rw [List.getElem?_eq_getElem hlt]
    show some (rowAt ts (i + (k : Nat), true)) = _
    unfold rowAt
    have e : (i + (k : Nat)).toNat = i.toNat + k := by omega
    simp only [e, List.getElem?_eq_getElem hlt, Option.getD_some, if_true]
  · rw [if_neg (by omega), List.getElem?_eq_none (by rw [List.length_range]; omega)]
    rfl
theorem rows_bwd {ts : List Tri} {i j : Int} (j0 : 0 ≤ j) (hij : j < i) (h : hiI i j ≤ ts.length) : ((stepsL i j).map (rowAt ts)).reverse = (cutT ts i j).map swT := by
  have e1 : loI i j = j := by unfold loI; rw [if_pos hij]
  have e2 : hiI i j = i := by unfold hiI; rw [if_neg (by omega)]
  rw [e2] at h
  unfold stepsL cutT
  rw [if_neg (by omega), e1, e2, List.map_map, ← List.map_reverse]
  apply List.ext_getElem?
  intro k
  rw [List.getElem?_map, List.getElem?_map, List.getElem?_take, List.getElem?_drop]
  by_cases hk : k < (i - j).toNat
  · rw [List.getElem?_reverse (by rw [List.length_range]; exact hk), List.length_range, List.getElem?_range (by omega), if_pos (by omega)]
    have hlt : j.toNat + k < ts.length := by omega
    rw [List.getElem?_eq_getElem hlt]
    show some (rowAt ts (i - 1 - (((i - j).toNat - 1 - k : Nat) : Int), false)) = _
    unfold rowAt
    have e : (i - 1 - (((i - j).toNat - 1 - k : Nat) : Int)).toNat = j.toNat + k := by omega
    simp only [e, List.getElem?_eq_getElem hlt, Option.getD_some, Bool.false_eq_true, if_false]
    rfl
  · rw [if_neg (by omega), List.getElem?_eq_none (by rw [List.length_reverse, List.length_range]; omega)]
    rfl
theorem sumT_rev (ts : List Tri) : sumT ts.reverse = sumT ts := by
  unfold sumT
  rw [List.map_reverse, List.map_reverse, List.map_reverse, List.sum_reverse, List.sum_reverse, List.sum_reverse]
theorem meas_sum {ts : List Tri} {i j : Int} (i0 : 0 ≤ i) (j0 : 0 ≤ j) (hij : i ≠ j) (h : hiI i j ≤ ts.length) : meas ts i j = some (sumT ((stepsL i j).map (rowAt ts))) := by
  unfold meas
  rw [if_neg (by omega)]
  by_cases hlt : i < j
  · rw [if_pos hlt, rows_fwd i0 hlt h]
    rfl
  · rw [if_neg hlt, ← sumT_rev, rows_bwd j0 (by omega) h]
    unfold sumT
    rw [List.map_map, List.map_map, List.map_map]
    rfl
section
variable {P : Program} {w : World} {K : PySem.W.Frag} {mg : Str → Option Value} {base : Heap} {f : Addr} {fd : FuncData}
theorem ok_pmeas {fS fR : Addr} {dS dR : FuncData} (F : FnD K "measure" s_measure [] f fd) (B : BGk mg) (FS : FnD K "steps_of" s_steps_of [] fS dS) (gS : mg "steps_of" = some (.ref fS)) (bS : Binds K dS p_steps_of []) (GS : FnOk P w K mg base CX0 1 fS dS p_steps_of spSteps)
    (FR : FnD K "reaches" s_reaches [] fR dR) (gR : mg "reaches" = some (.ref fR)) (bR : Binds K dR p_reaches []) (GR : FnOk P w K mg base CX0 1 fR dR p_reaches spReach) : FnOk P w K mg base CX0 2 f fd p_measure spMeas := by
  refine F.ok sc_measure (fun vs H Q E h => ?_) (fun cdv A outer s H vs Q E hr h => ?_)
  · obtain ⟨p, l, nm, ms, ts, i, j, rfl, _⟩ := h
    rfl
  · obtain ⟨p, l, nm, ms, ts, i, j, rfl, sec, ml, tl10, leg, hij, q⟩ := h
    refine ⟨_, PSs.nox (pss_cons (ps_if (pt_not (pt_val (pe_call GR (hr.mono (by decide)) rfl gR FR.kp bR .nil pass0 (pa_cons (pv 0) (pa_cons (pv 1) pa_nil))))) (pss_one (ps_ret pe_non)) pss_nil) (pss_cons (ps_asg3 pe_int (pg_name (i := 2) sc_measure.nd rfl (.inl rfl)) (pg_name (i := 3) sc_measure.nd rfl (.inl rfl)) (pg_name (i := 4) sc_measure.nd rfl (.inl rfl))) (pss_cons (ps_for PassesOwn.never rfl (pi_list (pe_call GS (hr.mono (by decide)) rfl gS FS.kp bS .nil pass0 (pa_cons (pv 1) pa_nil))) (pg_tup rfl (pgs_cons (pg_name (i := 5) sc_measure.nd rfl (.inl rfl)) (pgs_cons (pg_name (i := 6) sc_measure.nd rfl (.inl rfl)) pgs_nil))) (pss_cons (ps_asg (pe_ix ix_tup (pe_ix ix_tup (pv 0) pe_int (fun _ _ => rfl)) (pv 5) (fun _ _ => rfl)) (pg_tup rfl (pgs_cons (pg_name (i := 7) sc_measure.nd rfl (.inl rfl)) (pgs_cons (pg_name (i := 8) sc_measure.nd rfl (.inl rfl)) (pgs_cons (pg_name (i := 9) sc_measure.nd rfl (.inl rfl)) pgs_nil))))) (pss_cons (ps_aug (i := 2) sc_measure.nd rfl (.inl rfl) (pv 7) ip_add) (pss_cons (ps_aug (i := 3) sc_measure.nd rfl (.inl rfl) (pe_ifExp (pt_val (pv 6)) (pv 8) (pv 9)) ip_add) (pss_one (ps_aug (i := 4) sc_measure.nd rfl (.inl rfl) (pe_ifExp (pt_val (pv 6)) (pv 9) (pv 8)) ip_add)))))) (pss_one (ps_ret (pe_tup (pa_cons (pv 2) (pa_cons (pv 3) (pa_cons (pv 4) pa_nil))))))))), ?_⟩
    dsimp only [cxOf]
    refine ⟨_, rfl, _, rfl, p, l, nm, ms, ts, i, j, rfl, sec, leg, _, rfl, ?_⟩
    obtain ⟨⟨nm2, el⟩, i0, i7, j0, j7⟩ := id leg
    by_cases hlt : hiI i j < ms.length
    · rw [decide_eq_true hlt]
      refine iteF ?_
      have hle : hiI i j ≤ ts.length := by omega
      refine ⟨_, rfl, l, i, j, rfl, leg, hij, fun H1 r as s1 nr er st => ⟨r, rfl, ⟨_, .of er⟩, ?_⟩⟩
      have sl := st.1
      obtain ⟨a, b, tas, ep, ea, eb, ht⟩ := sec.same s1
      refine for_list (xs := as.map V.ref) (fun n σ H' => Same H1 H' ∧ ∃ y5 y6 y7 y8 y9, σ = [some (.ref p), some (.ref l), some (.int (sumT (((stepsL i j).take n).map (rowAt ts))).1), some (.int (sumT (((stepsL i j).take n).map (rowAt ts))).2.1), some (.int (sumT (((stepsL i j).take n).map (rowAt ts))).2.2), y5, y6, y7, y8, y9]) ⟨Same.refl _, none, none, none, none, none, rfl⟩ (fun n σ H' _ z => .of (z.1 _ _ er)) (fun n x σ H' gx z => ?_) (fun σ H' z => ?_)
      · obtain ⟨sm, y5, y6, y7, y8, y9, rfl⟩ := z
        rw [List.getElem?_map] at gx
        obtain ⟨t, gt, rfl⟩ := Option.map_eq_some_iff.mp gx
        have hn : n < (stepsL i j).length := by
          have := (List.getElem?_eq_some_iff.mp gt).1
          omega
        have gs := List.getElem?_eq_getElem hn
        have et := sm _ _ (st.2 n t _ gt gs)
        have tk : (stepsL i j).take (n + 1) = (stepsL i j).take n ++ [(stepsL i j)[n]] := by
          rw [List.take_add_one, gs]
          rfl
        obtain ⟨b0, b1⟩ := stepsL_in i0 j0 hle gs
        rw [tk, List.map_append]
        generalize (stepsL i j)[n] = x at et b0 b1
        generalize ((stepsL i j).take n).map (rowAt ts) = acc
        obtain ⟨k, forth⟩ := x
        obtain ⟨kn, rfl⟩ : ∃ m : Nat, k = (m : Int) := ⟨_, (Int.toNat_of_nonneg b0).symm⟩
        have hk : kn < ts.length := by
          have : (kn : Int) < ts.length := b1
          omega
        have gk := List.getElem?_eq_getElem hk
        have hk2 : kn < tas.length := by rw [ht.1]; exact hk
        have ga := List.getElem?_eq_getElem hk2
        have ek := sm _ _ (ht.2 kn _ _ ga gk)
        have rw1 : rowAt ts ((kn : Int), forth) = if forth = true then ts[kn] else swT ts[kn] := by
          unfold rowAt
          simp only [Int.toNat_natCast, gk, Option.getD_some]
        show gTup K 2 _ _ _ _ _
        rw [List.map_cons, List.map_nil, rw1, sumT_snoc]
        generalize ts[kn] = row at ek
        generalize tas[kn] = ra at ek ga
        refine ⟨t, _, rfl, .of et, rfl, _, _, rfl, _, _, rfl, rfl, ?_⟩
        try dsimp only
        refine ⟨_, rfl, p, _, _, _, rfl, rfl, .of (sm _ _ ep), rfl, _, rfl, b, _, _, _, rfl, rfl, .of (sm _ _ eb), atI_nat (by rw [List.getElem?_map, ga]; rfl), ra, _, rfl, .of ek, rfl, _, _, rfl, _, _, rfl, _, _, rfl, rfl, ?_⟩
        try dsimp only
        cases forth with
        | true => exact ⟨_, rfl, _, rfl, _, _, rfl, rfl, _, rfl, ⟨_, rfl, _, rfl, iteT ⟨_, rfl, _, _, rfl, rfl, ⟨_, rfl, _, rfl, _, rfl, iteT ⟨_, rfl, _, _, rfl, rfl, sm, _, _, _, _, _, rfl⟩⟩⟩⟩⟩
        | false => exact ⟨_, rfl, _, rfl, _, _, rfl, rfl, _, rfl, ⟨_, rfl, _, rfl, iteF ⟨_, rfl, _, _, rfl, rfl, ⟨_, rfl, _, rfl, _, rfl, iteF ⟨_, rfl, _, _, rfl, rfl, sm, _, _, _, _, _, rfl⟩⟩⟩⟩⟩
      · obtain ⟨sm, y5, y6, y7, y8, y9, rfl⟩ := z
        rw [List.length_map, sl, List.take_length]
        refine ⟨_, rfl, _, rfl, _, rfl, (by show 3 ≤ sizeLine; decide), fun t nt => ?_⟩
        refine q _ _ (s1.trans (sm.trans (same_upd nt))) ?_
        rw [meas_sum i0 j0 hij hle]
        exact ⟨t, rfl, upd_same⟩
    · rw [decide_eq_false hlt]
      refine iteT (q _ _ (Same.refl _) ?_)
      have : meas ts i j = none := by
        unfold meas
        rw [if_pos (by omega)]
      rw [this]
      rfl
end
end Pb

namespace Pb
open PySem PySem.Spec PyProof.Rows L2
/-! ### the head: what the top has written -/
def dfn : List He.DefD := [⟨("steps_of", none), "steps_of", "steps_of", defArgs s_steps_of, defBody s_steps_of, defScope s_steps_of, [], []⟩, ⟨("reaches", none), "reaches", "reaches", defArgs s_reaches, defBody s_reaches, defScope s_reaches, [], []⟩, ⟨("measure", none), "measure", "measure", defArgs s_measure, defBody s_measure, defScope s_measure, [], []⟩, ⟨("_law_begin", none), "_law_begin", "_law_begin", defArgs sBegin, defBody sBegin, defScope sBegin, [], []⟩, ⟨("_law_mixed", none), "_law_mixed", "_law_mixed", defArgs sMixed, defBody sMixed, defScope sMixed, [], []⟩, ⟨("_law_next", none), "_law_next", "_law_next", defArgs sNext, defBody sNext, defScope sNext, [], []⟩, ⟨("_law_words", none), "_law_words", "_law_words", defArgs sWords, defBody sWords, defScope sWords, [], []⟩, ⟨("_law_stretch", none), "_law_stretch", "_law_stretch", defArgs sStr, defBody sStr, defScope sStr, [], []⟩, ⟨("_law_section", none), "_law_section", "_law_section", defArgs sSec, defBody sSec, defScope sSec, [], []⟩, ⟨("_law_steps", none), "_law_steps", "_law_steps", defArgs sSt, defBody sSt, defScope sSt, [], []⟩, ⟨("_law_due", none), "_law_due", "_law_due", defArgs sDue, defBody sDue, defScope sDue, [], []⟩, ⟨("_law_in_parts", none), "_law_in_parts", "_law_in_parts", defArgs sPt, defBody sPt, defScope sPt, [], []⟩, ⟨("_law_leg_right", none), "_law_leg_right", "_law_leg_right", defArgs sLr, defBody sLr, defScope sLr, [], []⟩, ⟨("law", none), "law", "law", defArgs sLaw, defBody sLaw, defScope sLaw, [], []⟩]
def gls : List Str := ["steps_of", "reaches", "measure", "_law_begin", "_law_mixed", "_law_next", "_law_words", "_law_stretch", "_law_section", "_law_steps", "_law_due", "_law_in_parts", "_law_leg_right", "law"]
def frs : List Str := ["len", "min", "max", "range", "repr", "tuple", "sum"]
def ckG (K : PySem.W.Frag) : Bool := gls.all fun x => gloB x K
def ckF (K : PySem.W.Frag) : Bool := frs.all fun x => freeB x K
def cks : List (PySem.W.Frag → Bool) := [ckG, ckF]
section
variable {P : Program} {w : World} {K : PySem.W.Frag} {h : Heap} {mg : Str → Option Value}
theorem fr_ok (X : K.In h) (G : h.Ns mainGlobals mg) (c : SaysX cks dfn K) : ∀ x ∈ frs, mg x = none := fun x hx => He.free_ok X G (List.all_eq_true.mp (c.fact 1 (f := ckF)) x hx)
theorem gl_ok (X : K.In h) (G : h.Ns mainGlobals mg) (c : SaysX cks dfn K) : ∀ x ∈ gls, mg x = some (.ref (He.ga K x)) := fun x hx => He.glo_ok X G (List.all_eq_true.mp (c.fact 0 (f := ckG)) x hx)
theorem mkLK (X : K.In h) (G : h.Ns mainGlobals mg) (c : SaysX cks dfn K) : LK K mg := by
  have gl := gl_ok X G c
  have fr := fr_ok X G c
  have df : ∀ (i : Nat) {d : He.DefD}, dfn[i]? = some d → ∃ fd, FunD K d.name d.qual d.params d.body d.scope (d.dvs K) (d.kws K) (He.fAd K d.at_) fd := fun i {d} e => c.def_ i e
  exact {
          fBegin := (df 3 rfl).elim fun fd F => ⟨He.ga K "_law_begin", fd, F, gl _ (by decide +kernel)⟩
          fMixed := (df 4 rfl).elim fun fd F => ⟨He.ga K "_law_mixed", fd, F, gl _ (by decide +kernel)⟩
          fNext := (df 5 rfl).elim fun fd F => ⟨He.ga K "_law_next", fd, F, gl _ (by decide +kernel)⟩
          fWords := (df 6 rfl).elim fun fd F => ⟨He.ga K "_law_words", fd, F, gl _ (by decide +kernel)⟩
          fStr := (df 7 rfl).elim fun fd F => ⟨He.ga K "_law_stretch", fd, F, gl _ (by decide +kernel)⟩
          fSec := (df 8 rfl).elim fun fd F => ⟨He.ga K "_law_section", fd, F, gl _ (by decide +kernel)⟩
          fSt := (df 9 rfl).elim fun fd F => ⟨He.ga K "_law_steps", fd, F, gl _ (by decide +kernel)⟩
          fDue := (df 10 rfl).elim fun fd F => ⟨He.ga K "_law_due", fd, F, gl _ (by decide +kernel)⟩
          fPt := (df 11 rfl).elim fun fd F => ⟨He.ga K "_law_in_parts", fd, F, gl _ (by decide +kernel)⟩
          fLr := (df 12 rfl).elim fun fd F => ⟨He.ga K "_law_leg_right", fd, F, gl _ (by decide +kernel)⟩
          gLen := fr _ (by decide +kernel)
          gMin := fr _ (by decide +kernel)
          gMax := fr _ (by decide +kernel)
          gRange := fr _ (by decide +kernel)
          gRepr := fr _ (by decide +kernel)
          gTuple := fr _ (by decide +kernel)
          gSum := fr _ (by decide +kernel) }
theorem facts {f : Addr} (X : K.In h) (G : h.Ns mainGlobals mg) (hfa : mg ("law" : Str) = some (.ref f)) (c : SaysX cks dfn K) :
    ∃ fd : FuncData, (∀ (s : Shared) (u : Value), BindsTo s fd ⟨[u], []⟩ [("_law_script", u)]) ∧ ∀ base : Heap, K.In base → base.Ns mainGlobals mg → FnG P w K mg base CX0 5 f fd ["_law_script"] (spLaw K) := by
  have gl := gl_ok X G c
  have fr := fr_ok X G c
  obtain ⟨fd, F⟩ := c.def_ 13 (d := ⟨("law", none), "law", "law", defArgs sLaw, defBody sLaw, defScope sLaw, [], []⟩)
  have e := hfa.symm.trans (gl_ok X G c "law" (by decide +kernel))
  cases e
  have b := FunD.bindsA (ps := ["_law_script"]) F fun _ _ _ _ _ _ us hl => match us, hl with | [_], _ => rfl
  have df : ∀ (i : Nat) {d : He.DefD}, dfn[i]? = some d → ∃ fd, FunD K d.name d.qual d.params d.body d.scope (d.dvs K) (d.kws K) (He.fAd K d.at_) fd := fun i {d} e => c.def_ i e
  have B : BGk mg := ⟨fr _ (by decide +kernel), fr _ (by decide +kernel), fr _ (by decide +kernel)⟩
  have DS : ∃ f fd, FnD K "steps_of" s_steps_of [] f fd ∧ mg "steps_of" = some (.ref f) := (df 0 rfl).elim fun fd F => ⟨He.ga K "steps_of", fd, F, gl _ (by decide +kernel)⟩
  have DR : ∃ f fd, FnD K "reaches" s_reaches [] f fd ∧ mg "reaches" = some (.ref f) := (df 1 rfl).elim fun fd F => ⟨He.ga K "reaches", fd, F, gl _ (by decide +kernel)⟩
  have DM : ∃ f fd, FnD K "measure" s_measure [] f fd ∧ mg "measure" = some (.ref f) := (df 2 rfl).elim fun fd F => ⟨He.ga K "measure", fd, F, gl _ (by decide +kernel)⟩
  obtain ⟨fS, dS, FS, gS⟩ := DS
  obtain ⟨fR, dR, FR, gR⟩ := DR
  obtain ⟨fM, dM, FM, gM⟩ := DM
  have bS : Binds K dS p_steps_of [] := FS.bindsN fun _ _ _ _ _ _ us hl => match us, hl with | [_], _ => rfl
  have bR : Binds K dR p_reaches [] := FR.bindsN fun _ _ _ _ _ _ us hl => match us, hl with | [_, _], _ => rfl
  have bM : Binds K dM p_measure [] := FM.bindsN fun _ _ _ _ _ _ us hl => match us, hl with | [_, _], _ => rfl
  exact ⟨fd, fun s v => b s [v] rfl, fun base _ _ => ok_law F (mkLK X G c) FM gM bM (ok_pmeas FM B FS gS bS (ok_psteps FS B) FR gR bR (ok_reach FR B)) FS gS bS (ok_psteps FS B)⟩
end
abbrev RR : PySem.W.OpenRow := PySem.W.OpenLaw.row PySem.Challenge.rw_pathbook_k13_legs_measured
abbrev hk : PySem.W.Hook := hookX 5 cks dfn
def ob (s : PySem.W.SharedT) : He.AlD := obsXG 5 cks dfn (HandSHeadRun.getT s)
theorem ob_eq (s : PySem.W.SharedT) : ob s = hk.obs s.abs := obsXG_eq (HandSHeadRun.getT_eq s)
def loose : List PySem.Str := ["steps_of", "reaches", "measure", "_law_begin", "_law_mixed", "_law_next", "_law_words", "_law_stretch", "_law_section", "_law_steps", "_law_due", "_law_in_parts", "_law_leg_right"]
theorem runs (w : World) : HandSHeadRun.RunEq RR (PySem.W.view RR.prog [15]) hk ob 4500 loose w := by
  intro os
  kernel_rfl
end Pb
open PySem PySem.W PySem.Calls PyProof.Rows
theorem PySem.Challenge.cw_pathbook_k13_legs_measured_holds : PySem.Challenge.rw_pathbook_k13_legs_measured.Holds := by
  w_on; o_law
  refine HandSHeadRun.head_any (r := OpenLaw.row PySem.Challenge.rw_pathbook_k13_legs_measured) (q := view (OpenLaw.row PySem.Challenge.rw_pathbook_k13_legs_measured).prog [15]) (H := Pb.hk) (ob := Pb.ob) (M := 4500) (loose := Pb.loose) (d := HandSHeadRun.topDef (OpenLaw.row PySem.Challenge.rw_pathbook_k13_legs_measured).prog 15) (kwd := []) Pb.ob_eq
    (by kernel_rfl) (fun s => by kernel_rfl) Pb.runs (by kernel_rfl) (by kernel_rfl) (by kernel_rfl) (by rfl) (by first | assumption | decide +kernel) (by decide +kernel) ⟨rfl, rfl, rfl, rfl, rfl, by decide +kernel⟩ ?hw ?hc
  case hw => w_witness2
  case hc =>
    refine Pb.walkG (l := PySem.Challenge.rw_pathbook_k13_legs_measured) (n := 63) (k := 5) (x := "_law_script") (CX := L2.CX0) rfl (by decide) (by kernel_rfl) ⟨rfl, by decide, by decide⟩ ?F (fun _ _ _ _ z => z)
    intro w mg fa h Y G hmg0
    obtain ⟨K, KX, c⟩ := Y
    have hmg : mg ("law" : PySem.Str) = some (.ref fa) := by
      have e : (HandSHeadRun.topDef (OpenLaw.row PySem.Challenge.rw_pathbook_k13_legs_measured).prog 15).name = ("law" : PySem.Str) := by kernel_rfl
      rw [← e]
      exact hmg0
    obtain ⟨fd, hb, hF⟩ := Pb.facts (P := (PySem.Challenge.rw_pathbook_k13_legs_measured).prog) (w := w) KX G hmg c
    exact ⟨K, fd, Pb.spLaw K, KX, hb, fun H a ns hl _ hS => ⟨a, ns, rfl, hS, hl, fun _ => rfl⟩, hF⟩
