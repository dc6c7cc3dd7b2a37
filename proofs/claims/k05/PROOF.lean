import PyProof.Rows.All
import Wide.All
import OpenK.AllK
import Wide.FinOn
import HandS.ForMost
import HandS.ForExc
import HandS.Head2
import HandS.HeadEnd
import HandS.HeadHook2
import HandS.ExcInit
import HandS.ExcField
import HandS.ExcIs
import HandS.ExcValue
import HandS.IsInst
import HandS.Defaults
import HandS.Flow
import KE.KExcInit
import KE.KExcIs
import KE.KTryMore
import HandS.Walk
import HandS.CallSlots
import HandS.Text
import HandS.Replace
import KE.GoesEnum
import HandS.Set
import HandS.SetFor
import HandS.Strs
import PyProof.Rows.SortStr
import HandS.Deep
import HandS.TupAny
import HandS.Style
import HandS.Zip
import HandS.MakeKw
import PySem.Challenge.RW_pathbook_k05_what_books_tell
set_option Elab.async false
set_option linter.all false
set_option maxRecDepth 100000
set_option maxHeartbeats 0
namespace Pb
open PySem PySem.Spec PyProof.Rows L2
theorem dv (j : Int) (h : 0 < j := by decide) : 0 < j := h
theorem same_upd {H : Hp} {p : Addr} {o : HO} (h : H p = none) : Same H (upd H p o) := fun b x e => by
  rw [upd_ne (ne_of_none e h)]
  exact e
/-! ### two lists put together, the left one perhaps only to be read -/
section
variable {X : Cx}
def rCatS (K : PySem.W.Frag) : R2 := fun x y H Q => ∃ l b xs zs, x = .ref l ∧ y = .ref b ∧ SqL K H l xs ∧ SqL K H b zs ∧ xs.length + zs.length ≤ sizeLine ∧
  ∀ p, H p = none → Q (.ref p) (upd H p (.lst (xs ++ zs)))
theorem op_catS : OpR X (binaryOp .Add) (rCatS X.K) := by
  intro pins s σ H x y v u Q I rx ry hyp
  obtain ⟨l, b, xs, zs, ex, ey, hL, hB, hz, q⟩ := hyp
  subst ex ey
  cases rx; cases ry
  obtain ⟨i1, r1, ⟨o1, n1, g1, c1, d1, e1⟩, s1⟩ := I.list hL
  obtain ⟨i2, r2, ⟨o2, n2, g2, c2, d2, e2⟩, s2⟩ := I.list hB
  obtain ⟨k1, dd1, da1, sl1⟩ := o1
  obtain ⟨k2, dd2, da2, sl2⟩ := o2
  dsimp only at c1 d1 e1 c2 d2 e2
  subst c1 d1 e1 c2 d2 e2
  have l1 := r1.length
  have l2 := r2.length
  have ea : i1.toArray ++ i2.toArray = (i1 ++ i2).toArray := by simp
  have hs : i1.toArray.size + i2.toArray.size ≤ sizeLine := by simp; omega
  refine concat_meets ⟨_, g1, rfl⟩ ⟨_, g2, rfl⟩ noFill_list_add seq_list_add PySem.F.slot_list_add PySem.F.entry_list_add
    (PySem.F.args_list_add_2 _ _) (list_addW l b i1.toArray i2.toArray n1 n2 none none sl1 sl2 hs) ⟨g1, g2, ?_⟩
  rw [ea]
  exact ⟨.ref _, _, I.lnew (t' := s.toks) (r1.append r2) (by rw [List.length_append]; omega), rfl, q _ I.fresh⟩
end
end Pb

/-! ### an own exception class, over any built-in one, made with keywords too -/
namespace Pb
open PySem PySem.W Builtin Builtin.ObjectAttr
section
variable {M : Model} {prog : Program} {w : World} {A : Around} {E : Value → Shared → Prop} {R : Result → Shared → Prop} {h : Heap} {g : Array GenState} {d : Drawn} {t : Nat} {os : OsState}
variable {nm q : Str} {C N : Addr} {bs bm bmB : List Value} {hdct : Bool} {sn : List Str} {sub : List Value} {ab : Bool} {col : Option Bool} {dd : Option Addr} {k0 k1 k2 k3 k5 : Option Value} {B newId initId : String}
abbrev HasT (bm bmB : List Value) : Prop := ∀ T : String, bm.contains (.type T) = bmB.contains (.type T)
theorem kwNewCheck (FB : ExcBaseFacts B newId initId bmB) (hT : HasT bm bmB) {rest : List Value} {kw : List (Str × Value)} {Q : Unit → Shared → Prop}
    (hC : h.get? C = some (excClassObj nm q C N bs bm hdct sn sub ab col dd k0 k1 k2 k3 k5 newId)) (fin : Q () ⟨h, g, d, t, os⟩) :
    wpAny M A (checkBuiltinCall newId ⟨.ref C :: rest, kw⟩) Q E ⟨h, g, d, t, os⟩ := by
  have c1 : (Value.ref C :: bm).contains (.type B) = true := by
    rw [List.contains_cons, hT, FB.hasB, Bool.or_true]
  have c2 := FB.noStar
  simp only [checkBuiltinCall, FB.newKind, FB.newSplit, FB.newRow]
  repeat (first
    | refine wpAny_loadPart_at hC ?_
    | (refine wpAny_isSubtype_exc hC ?_; rw [c1])
    | refine wpAny_staticBase_exc hC ?_
    | refine wpAny_madeBy_exc hC ?_
    | simp only [bne_self_eq_false, Bool.false_eq_true, if_false]
    | wp_step)
  exact fin
theorem kwNew (FB : ExcBaseFacts B newId initId bmB) (hT : HasT bm bmB) {rest : List Value} {kw : List (Str × Value)}
    (hC : h.get? C = some (excClassObj nm q C N bs bm hdct sn sub ab col dd k0 k1 k2 k3 k5 newId)) (hz : rest.length ≤ sizeLine)
    (fin : R (.ok (.ret (.ref (h.objs.size + 1)))) ⟨(h.push (kdv_tup rest)).push (HandSPX.excO C h.objs.size), g, d, t, os⟩) :
    codeAny (model prog w) A (.builtin newId ⟨.ref C :: rest, kw⟩) R ⟨h, g, d, t, os⟩ := by
  have c0 := FB.ends
  have c1 : (Value.ref C :: bm).contains (.type B) = true := by
    rw [List.contains_cons, hT, FB.hasB, Bool.or_true]
  have c2 : (Value.ref C :: bm).contains (.type "AttributeError") = false := by
    rw [List.contains_cons, hT, FB.noAttr]
    rfl
  have c3 : (Value.ref C :: bm).contains (.type "NameError") = false := by
    rw [List.contains_cons, hT, FB.noName]
    rfl
  refine codeAny_builtinAt FB.entry ?_
  unfold Builtin.«BaseException.__new__»
  refine wpAt_bind ?_
  show wpAt _ _ _ (stack >>= _) _ _ _
  refine wpAt_bind (wpAt_stack fun p below => wpAt_of_wpAny ?_)
  wp_walk
  refine wpAt_of_wpAny ?_
  rw [FB.owner]
  repeat (first
    | with_reducible refine wpAny_madeHere_exc FB.canon hC ?_
    | with_reducible refine wpAny_loadPart_at hC ?_
    | (with_reducible refine wpAny_isSubtype_exc hC ?_; first | rw [c1] | rw [c2] | rw [c3])
    | wp_step)
  show R _ _
  rw [Heap.size_push]
  exact fin
theorem kwTypeCall (FB : ExcBaseFacts B newId initId bmB) (hT : HasT bm bmB) {rest : List Value} {kw : List (Str × Value)} {fI : Addr} {Q : Fin → Shared → Prop}
    (hC : h.get? C = some (excClassObj nm q C N bs bm hdct sn sub ab col dd k0 k1 k2 k3 k5 newId))
    (hi : Looks (model prog w) h (typeLookup (.ref C) "__init__") (some (.ref fI))) (hb : ∀ self, Looks (model prog w) h (bindSpecial (.ref fI) self) (.ref fI, [self])) (hz : rest.length ≤ sizeLine)
    (body : codeAny (model prog w) A (.call (.ref fI) ⟨.ref (h.objs.size + 1) :: rest, kw⟩)
      (fun r s' => match r with | .ok (.ret v) => v = .none ∧ Q (.done (.ret (.ref (h.objs.size + 1)))) s' | .ok _ => False | .error e => E e s')
      ⟨(h.push (kdv_tup rest)).push (HandSPX.excO C h.objs.size), g, d, t, os⟩) :
    wpAny (model prog w) A (Builtin.«type.__call__» ⟨.ref C :: rest, kw⟩) Q E ⟨h, g, d, t, os⟩ := by
  repeat (first
    | with_reducible refine wpAny_loadPart_at hC ?_
    | with_reducible refine wpAny_madeBy_exc hC ?_
    | wp_step)
  refine codeAny_call_builtin_code (Code.quiet_builtin _ FB.quiet) (kwNewCheck FB hT hC ?_)
  refine kwNew FB hT hC hz ?_
  show wpAny _ _ _ _ _ _
  have kp : ∀ b o, h.get? b = some o → ((h.push (kdv_tup rest)).push (HandSPX.excO C h.objs.size)).get? b = some o :=
    fun b o e => Heap.get?_push_of_some _ (Heap.get?_push_of_some _ e)
  have hC2 := kp _ _ hC
  have hE : ((h.push (kdv_tup rest)).push (HandSPX.excO C h.objs.size)).get? (h.objs.size + 1) = some (HandSPX.excO C h.objs.size) := by heap_get
  have cc : (Value.ref C :: bm).contains (.ref C) = true := by simp
  have j1 := hi.keeps kp
  have j2 := (hb (.ref (h.objs.size + 1))).keeps kp
  unfold isInstance
  repeat (first
    | with_reducible refine wpAny_loadPart_at hE ?_
    | (with_reducible refine wpAny_isSubtype_exc hC2 ?_; rw [cc])
    | wp_step)
  show wpAny _ _ (typeLookup (.ref C) _) _ _ _
  refine j1.at ?_
  refine wpAny_holding (wpAny_bind (j2.at ?_))
  refine wpAny_bind (wpAny_call (codeAny_mono body fun r s' z => ?_))
  rcases r with e | (v | _ | _ | _) <;> first | exact z | exact z.elim | skip
  obtain ⟨ev, z⟩ := z
  subst ev
  first
    | exact wpAny_pure (wpAny_pure z)
    | (wp_walk; exact z)
theorem kwCall (FB : ExcBaseFacts B newId initId bmB) (hT : HasT bm bmB) {rest : List Value} {kw : List (Str × Value)} {fI : Addr}
    (hC : h.get? C = some (excClassObj nm q C N bs bm hdct sn sub ab col dd k0 k1 k2 k3 k5 newId))
    (hi : Looks (model prog w) h (typeLookup (.ref C) "__init__") (some (.ref fI))) (hb : ∀ self, Looks (model prog w) h (bindSpecial (.ref fI) self) (.ref fI, [self])) (hz : rest.length ≤ sizeLine)
    (body : codeAny (model prog w) (A.under (.builtin "type.__call__" ⟨.ref C :: rest, kw⟩)) (.call (.ref fI) ⟨.ref (h.objs.size + 1) :: rest, kw⟩) (InitBack (h.objs.size + 1) R)
      ⟨(h.push (kdv_tup rest)).push (HandSPX.excO C h.objs.size), g, d, t, os⟩) :
    codeAny (model prog w) A (.call (.ref C) ⟨rest, kw⟩) R ⟨h, g, d, t, os⟩ := by
  have y1 := tc_lookup
  have y2 := tc_bind (.ref C)
  have y3 : (⟨h, g, d, t, os⟩ : Shared).TypeIs (.ref C) "type" := ⟨_, hC, rfl⟩
  refine codeAny_of_tree ?_
  show wpAny _ _ (callAny (.ref C) _) _ _ _
  repeat (any_goals (first | assumption | with_reducible refine wpAny_loadPart_at hC ?_ | wp_step))
  refine ⟨rfl, ?_⟩
  refine codeAny_call_builtin_at (Code.quiet_builtin _ (by decide +kernel)) entry_typeCall (wpAny_check_type_call_sub hC (kwTypeCall FB hT hC hi hb hz ?_))
  refine codeAny_mono body fun r s' z => ?_
  rcases r with e | (v | _ | _ | _) <;> exact z
end
end Pb

namespace Pb
open PySem PySem.W PyProof.Rows L2
/-- a built-in class that own exceptions stand under -/
structure XB (bmB : List Value) (newId : String) : Prop where
  ex : ∃ B initId, ExcBaseFacts B newId initId bmB ∧ StoreFacts B bmB "object.__setattr__" "object"
abbrev mroV : List Value := [.type "ValueError", .type "Exception", .type "BaseException", .type "object"]
abbrev mroL : List Value := [.type "LookupError", .type "Exception", .type "BaseException", .type "object"]
abbrev mroO : List Value := [.type "OverflowError", .type "ArithmeticError", .type "Exception", .type "BaseException", .type "object"]
theorem xbV : XB mroV "ValueError.__new__" := ⟨_, _, PySem.F.excBase_ValueError, PySem.F.store_ValueError⟩
theorem xbL : XB mroL "LookupError.__new__" := ⟨_, _, PySem.F.excBase_LookupError, PySem.F.store_LookupError⟩
theorem xbO : XB mroO "OverflowError.__new__" := ⟨_, _, PySem.F.excBase_OverflowError, PySem.F.store_OverflowError⟩
/-- what the written part says of an own exception class -/
structure XC (K : Frag) (C : Addr) (bmB : List Value) (newId : String) : Prop where
  ini : excInitIn K C bmB newId = true
  ovr : excOver K C bmB = true
  dic : hasDictIn K C = true
  sa : findIn K (.ref C) "__setattr__" = some (some (.builtin "object.__setattr__"))
  ga : findIn K (.ref C) "__getattribute__" = some (some (.builtin "BaseException.__getattribute__"))
  gg : findIn K (.ref C) "__getattr__" = some none
  cl : findIn K (.ref C) "__class__" = some (some (.builtin "object.__class__"))
  sub : subIn K (.ref C) (.type "BaseException") = some true
  ty : typeIn K (.ref C) = some (.type "type")
  kp : keepIn K (.ref C) = true
  ob : mroIn K C (.type "object") = some true
  sg : specialIn K (.builtin "object.__class__") "__get__" = some (some (.builtin "getset_descriptor.__get__"))
  tk : takesIn K (.builtin "object.__class__") = some true
def xcB (K : Frag) (C : Addr) (bmB : List Value) (newId : String) : Bool :=
  excInitIn K C bmB newId && (excOver K C bmB && (hasDictIn K C && (decide (findIn K (.ref C) "__setattr__" = some (some (.builtin "object.__setattr__"))) &&
  (decide (findIn K (.ref C) "__getattribute__" = some (some (.builtin "BaseException.__getattribute__"))) && (decide (findIn K (.ref C) "__getattr__" = some none) &&
  (decide (findIn K (.ref C) "__class__" = some (some (.builtin "object.__class__"))) && (decide (subIn K (.ref C) (.type "BaseException") = some true) &&
  (decide (typeIn K (.ref C) = some (.type "type")) && (keepIn K (.ref C) && (decide (mroIn K C (.type "object") = some true) &&
  (decide (specialIn K (.builtin "object.__class__") "__get__" = some (some (.builtin "getset_descriptor.__get__"))) && decide (takesIn K (.builtin "object.__class__") = some true))))))))))))
theorem xcB_ok {K : Frag} {C : Addr} {bmB : List Value} {newId : String} (h : xcB K C bmB newId = true) : XC K C bmB newId := by
  unfold xcB at h
  simp only [Bool.and_eq_true, decide_eq_true_eq] at h
  obtain ⟨h1, h2, h3, h4, h5, h6, h7, h8, h9, h10, h11, h12, h13⟩ := h
  exact ⟨h1, h2, h3, h4, h5, h6, h7, h8, h9, h10, h11, h12, h13⟩
section
variable {prog : Program} {w : World} {A : Around} {E : Value → Shared → Prop} {R : Result → Shared → Prop} {hp : Heap} {g : Array GenState} {d : Drawn} {t : Nat} {os : OsState} {K : Frag} {C x : Addr} {bmB : List Value} {newId : String} {name : Str} {tk : Tok} {v : Value}
theorem taker0 (ha : findIn K (.ref C) name = some none) : takerIn K C name = some none := by
  unfold takerIn
  rw [ha]
  rfl
/-- the first field of an exception -/
theorem xset_new {fv : Array Value} (B : XB bmB newId) (T : XC K C bmB newId) (X : K.In hp) (hx : hp.get? x = some { cls := .ref C, data := .fields fv }) (ha : findIn K (.ref C) name = some none)
    (fin : ∀ h' tk' dx, (∀ b o, b ≠ x → hp.get? b = some o → h'.get? b = some o) → hp.objs.size ≤ dx → dx ≠ x → h'.get? x = some { cls := .ref C, dict := some dx, data := .fields fv } →
      h'.Ns1 dx (fun y => if y = name then some v else none) → R (.ok (.ret .none)) ⟨h', g, d, tk', os⟩) :
    codeAny (model prog w) A (.call (.builtin "object.__setattr__") ⟨[.ref x, .str name tk, v], []⟩) R ⟨hp, g, d, t, os⟩ := by
  obtain ⟨Bn, ii, FB, SF⟩ := B.ex
  have xs : x ≠ hp.objs.size := Nat.ne_of_lt (Heap.lt_size hx)
  obtain ⟨cd, hcd, hdd⟩ := any_some T.dic
  have lk : Looks (model prog w) hp (classData C) cd := looks_clsIn X hcd
  refine osa_openX (s := ⟨hp, g, d, t, os⟩) (od := none) SF X ⟨hx, rfl, rfl, trivial⟩ T.ovr (taker0 ha) fun b => ?_
  obtain ⟨m1, m2, m3, m4, m5, m6, m7, m8, m9, m10, m11⟩ := cd
  dsimp only at hdd
  subst hdd
  dsimp only
  unfold Builtin.ObjectAttr.storeInOwnDict Builtin.ObjectAttr.ownDictForStores
  repeat (first
    | with_reducible refine HandSPX.store_in_new ?_ ?_
    | with_reducible refine wpAny_loadPart_at hx ?_
    | with_reducible refine lk.at ?_
    | wp_step)
  · exact ⟨_, #[], _, (Heap.get?_update_ne _ _ _ _ xs.symm).trans (Heap.get?_push_at rfl rfl), rfl, fun e he => absurd he (by simp), fun _ => rfl⟩
  · intro h' tk' hn sb
    have hx2 : (hp.push { cls := .type "dict", data := .dict #[] }).get? x = some { cls := .ref C, data := .fields fv } := Heap.get?_push_of_some _ hx
    refine fin h' tk' hp.objs.size (fun b o hb ho => ?_) (Nat.le_refl _) xs.symm ?_ hn
    · exact (sb.2 b (Nat.ne_of_lt (Heap.lt_size ho))).trans ((Heap.get?_update_ne _ _ _ _ hb).trans (Heap.get?_push_of_some _ ho))
    · exact (sb.2 x xs).trans (Heap.get?_update_self _ hx2 rfl)
/-- a further field -/
theorem xset_old {fv : Array Value} {dx : Addr} {m0 : Str → Option Value} {nl : List Str} (B : XB bmB newId) (T : XC K C bmB newId) (X : K.In hp) (hx : hp.get? x = some { cls := .ref C, dict := some dx, data := .fields fv })
    (hns : hp.Ns1 dx m0) (hw : Within m0 nl) (hz : nl.length ≤ 1000) (ha : findIn K (.ref C) name = some none)
    (fin : ∀ h' tk', (∀ b o, b ≠ dx → hp.get? b = some o → h'.get? b = some o) → h'.Ns1 dx (fun y => if y = name then some v else m0 y) → R (.ok (.ret .none)) ⟨h', g, d, tk', os⟩) :
    codeAny (model prog w) A (.call (.builtin "object.__setattr__") ⟨[.ref x, .str name tk, v], []⟩) R ⟨hp, g, d, t, os⟩ := by
  obtain ⟨Bn, ii, FB, SF⟩ := B.ex
  obtain ⟨oD, esD, epD, hoD, hdD, _⟩ := hns.count hw
  obtain ⟨cd, hcd, hdd⟩ := any_some T.dic
  have lk : Looks (model prog w) hp (classData C) cd := looks_clsIn X hcd
  refine osa_openX (s := ⟨hp, g, d, t, os⟩) (od := some oD) SF X ⟨hx, rfl, rfl, hoD⟩ T.ovr (taker0 ha) fun b => ?_
  obtain ⟨m1, m2, m3, m4, m5, m6, m7, m8, m9, m10, m11⟩ := cd
  dsimp only at hdd
  subst hdd
  dsimp only
  unfold Builtin.ObjectAttr.storeInOwnDict Builtin.ObjectAttr.ownDictForStores
  repeat (first
    | with_reducible refine OEX.store_in_old hns hw hz ?_
    | with_reducible refine wpAny_loadPart_at hx ?_
    | with_reducible refine lk.at ?_
    | wp_step)
  intro h' tk' hn sb
  exact fin h' tk' (fun b o hb ho => (sb.2 b hb).trans ho) hn
end
section
variable {X : Cx} {pins : List (Addr × Obj)} {σ : L2.St} {H : Hp} {s : Shared} {a C dx : Addr} {f : Str} {y : V} {u : Value} {fs : List (Str × V)} {Q : Unit → Shared → Prop} {E : Value → Shared → Prop} {A : Around} {bmB : List Value} {newId : String}
theorem xst_new (B : XB bmB newId) (T : XC X.K C bmB newId) (I : Inv X pins σ H s) (e : H a = some (exo a C none)) (hno : findIn X.K (.ref C) f = some none) (ry : RelV y u)
    (fin : ∀ dx s', H dx = none → dx ≠ a → Inv X pins σ (upd (upd H dx (exd dx [(f, y)])) a (exo a C (some dx))) s' → Q () s') : wpAny (model X.prog X.w) A (setAttr (.ref a) f u) Q E s := by
  obtain ⟨t1, ho⟩ := exo_at I.hok e
  obtain ⟨hp, g, d, t, os⟩ := s
  refine set_plain I.kIn (ox := { cls := .ref C, dict := none, data := .fields #[.ref t1, .none, .none, .none, .bool false, .none] }) (od := none) ⟨ho, rfl, rfl, trivial⟩ T.sa ?_
  refine xset_new B T I.kIn ho hno (fun h' tk' dx k dn dne hx hn => ?_)
  have fr : H dx = none := I.hok.fresh dn
  have nd : ∀ {b : Addr} {o : Obj}, hp.get? b = some o → b ≠ dx := fun {b o} z => Nat.ne_of_lt (Nat.lt_of_lt_of_le (Heap.lt_size z) dn)
  have na : ∀ {b : Addr}, H b = none → b ≠ a := fun {b} n z => by
    rw [z, e] at n
    cases n
  have UU : Un X.fs [] H (upd (upd H dx (exd dx [(f, y)])) a (exo a C (some dx))) hp h' :=
    { keep := fun b o z n _ _ => k b o (na n) z
      slot := fun b o z n _ _ => ⟨o.slots, k b o (na n) z⟩
      free := fun b o z n _ => by
        rw [upd_ne (na n), upd_ne (nd z)]
        exact n
      there := fun b o z _ => by
        by_cases hb : b = a
        · exact ⟨_, by rw [hb]; exact hx⟩
        · exact ⟨o, k b o hb z⟩
      tups := fun b xs z => by
        rw [upd_ne (at_ne e z exo_tup), upd_ne (ne_of_none z fr)]
        exact z
      frzs := fun b o v z => by
        rw [upd_ne (at_ne e z exo_frz), upd_ne (ne_of_none z fr)]
        exact z
      tbls := fun b ps z => ⟨#[], by rw [upd_ne (at_ne e z exo_tbl), upd_ne (ne_of_none z fr), z]; simp⟩ }
  refine fin dx _ fr dne (I.un (t' := tk') UU fun b o z => ?_)
  by_cases hb : b = a
  · subst hb
    rw [upd_same] at z
    cases z
    exact exo_ok hx
  · rw [upd_ne hb] at z
    by_cases hd : b = dx
    · subst hd
      rw [upd_same] at z
      cases z
      exact exd_ok hn (relO_put (fs := []) ry fun g => True.intro)
    · rw [upd_ne hd] at z
      refine (I.hok b o z).stay (fun c v hc r => k c v ?_ r) (fun c hc => ?_) (fun c xs hc => ?_)
      · rcases hc with hc | hc
        · rw [hc]
          exact hb
        · exact at_ne e hc exo_own
      · rw [upd_ne (at_ne e hc exo_own), upd_ne (ne_of_none hc fr)]
        exact hc
      · rw [upd_ne (at_ne e hc exo_tup), upd_ne (ne_of_none hc fr)]
        exact hc
theorem xst_old (B : XB bmB newId) (T : XC X.K C bmB newId) (I : Inv X pins σ H s) (e : H a = some (exo a C (some dx))) (ed : H dx = some (exd dx fs)) (hl : fs.length ≤ 900) (hno : findIn X.K (.ref C) f = some none) (ry : RelV y u)
    (fin : ∀ s', Inv X pins σ (upd H dx (exd dx ((f, y) :: fs))) s' → Q () s') : wpAny (model X.prog X.w) A (setAttr (.ref a) f u) Q E s := by
  obtain ⟨t1, ho⟩ := exo_at I.hok e
  obtain ⟨mA, hns, rel⟩ := exd_at I.hok ed
  have hw := within_of rel
  obtain ⟨hp, g, d, t, os⟩ := s
  obtain ⟨oD, _, _, hoD, _, _⟩ := hns.count hw
  refine set_plain I.kIn (ox := { cls := .ref C, dict := some dx, data := .fields #[.ref t1, .none, .none, .none, .bool false, .none] }) (od := some oD) ⟨ho, rfl, rfl, hoD⟩ T.sa ?_
  refine xset_old B T I.kIn ho hns hw (by rw [List.length_map]; omega) hno (fun h' tk' k hn => ?_)
  have hd : ∃ o, h'.get? dx = some o := by
    obtain ⟨o, _, _, e', _⟩ := hn
    exact ⟨o, e'⟩
  exact fin _ (I.write (t' := tk') (x := dx) (e := dx) (o := exd dx ((f, y) :: fs)) (by rw [ed]; exact True.intro) (.inl rfl) k hd (exd_ok hn (relO_put ry rel)))
end
/-- self.f = e, self an exception -/
def tXst (K : Frag) (f : Str) (to te : TE) : TS := fun D σ H => te σ H fun y H1 => to σ H1 fun x H2 => ∃ (a C : Addr) (bmB : List Value) (newId : String), x = .ref a ∧ XB bmB newId ∧ XC K C bmB newId ∧ findIn K (.ref C) f = some none ∧
  ((H2 a = some (exo a C none) ∧ ∀ dx, H2 dx = none → dx ≠ a → D.nx σ (upd (upd H2 dx (exd dx [(f, y)])) a (exo a C (some dx)))) ∨
    ∃ (dx : Addr) (fs : List (Str × V)), H2 a = some (exo a C (some dx)) ∧ H2 dx = some (exd dx fs) ∧ fs.length ≤ 900 ∧ D.nx σ (upd H2 dx (exd dx ((f, y) :: fs))))
/-- C(..), C an own exception class with an __init__ of its own: a new exception -/
def tXnew (C : Addr) (n m : Nat) (sp : Sp) (gV : List V → List V → List V) (t tk : TA) : TE := fun σ H Q => t σ H fun vs H1 => tk σ H1 fun zs H2 => vs.length = n ∧ zs.length = m ∧ n ≤ 1000 ∧
  ∀ a, H2 a = none → sp (gV (.ref a :: vs) zs) (upd H2 a (exo a C none)) (fun v H3 => v = .non ∧ Q (.ref a) H3) (fun _ _ _ => False)
section
variable {X : Cx} {o e : Expr} {es : List Expr} {kws : List Keyword} {to te : TE} {t tk : TA} {f : Str} {p p' p1 p2 pos : Pos} {bmB : List Value} {newId : String}
theorem ps_xst (ho : PE X o to) (he : PE X e te) (hs : swapsWith e (some (.Attribute o f p')) pos.line X.env = pure false := by rfl) : PS X (.Assign [.Attribute o f p'] e pos) (tXst X.K f to te) := by
  refine ⟨fun pins s σ H D I h => ?_⟩
  refine plainObj_wpAny_Assign_Attribute (thn (he.run pins s σ H _ I h) fun v s1 z => ?_) hs
  obtain ⟨y, H1, I1, r1, q1⟩ := z
  refine thn (ho.run pins s1 σ H1 _ I1 q1) fun u s2 z2 => ?_
  obtain ⟨x, H2, I2, r2, a, C, bb, nn, ex, B, T, hno, q⟩ := z2
  subst ex
  cases (show u = Value.ref a from r2)
  rcases q with ⟨ea, q⟩ | ⟨dx, fs, ea, ed, hl, q⟩
  · exact xst_new B T I2 ea hno r1 fun dx s' n ne J => ⟨σ, _, J, q dx n ne⟩
  · exact xst_old B T I2 ea ed hl hno r1 fun s' J => ⟨σ, _, J, q⟩
variable {CX : CXT} {x : Str} {C fI : Addr} {k n : Nat} {fd : FuncData} {ps ks : List Str} {sp : Sp} {gg : List Value → List Value → List Value} {gV : List V → List V → List V}
theorem xnew_run {pins : List (Addr × Obj)} {σ : L2.St} {H : Hp} {s : Shared} {Q : VK} {us ws : List Value} {vs zs : List V} (B : XB bmB newId) (T : XC X.K C bmB newId) (iC : findIn X.K (.ref C) "__init__" = some (some (.ref fI))) (tI : typeIn X.K (.ref fI) = some (.type "function"))
    (F1 : FnOk X.prog X.w X.K X.mg X.base CX k fI fd ps sp) (hr : Room (k + 1) X.A) (hb : KBn X.K fd ps (n + 1) ks gg gV) (hx : Passes CX X (fun _ _ _ => False)) (I1 : Inv X pins σ H s) (r1 : Vals vs us) (rz : Vals zs ws) (l1 : vs.length = n) (l2 : zs.length = ks.length) (hz : n ≤ 1000)
    (q1 : ∀ a, H a = none → sp (gV (.ref a :: vs) zs) (upd H a (exo a C none)) (fun v H3 => v = .non ∧ Q (.ref a) H3) (fun _ _ _ => False)) :
    wpAny (model X.prog X.w) X.A (call (.ref C) us (ks.zip ws)) (EP X pins σ Q) X.xe s := by
  obtain ⟨Bn, ii, FB, SF⟩ := B.ex
  obtain ⟨nm, N', qn, bs, bm, hdct, sn, sub, ab, col, dd, k0, k1, k2, k3, k5, hC, hT⟩ := excInit_of I1.kIn T.ini
  obtain ⟨hp, g, dr, tk, os⟩ := s
  have sz : hp.objs.size ≤ hp.objs.size + 1 := Nat.le_succ _
  have hn : H (hp.objs.size + 1) = none := I1.hok.fresh sz
  have hq := q1 (hp.objs.size + 1) hn
  have kk : ∀ b o, hp.get? b = some o → ((hp.push (kdv_tup us)).push (HandSPX.excO C hp.objs.size)).get? b = some o := fun b o e => Heap.get?_push_of_some _ (Heap.get?_push_of_some _ e)
  have hget : ((hp.push (kdv_tup us)).push (HandSPX.excO C hp.objs.size)).get? (hp.objs.size + 1) = some (HandSPX.excO C hp.objs.size) := by heap_get
  have I2 : Inv X pins σ (upd H (hp.objs.size + 1) (exo (hp.objs.size + 1) C none)) ⟨(hp.push (kdv_tup us)).push (HandSPX.excO C hp.objs.size), g, dr, tk, os⟩ :=
    I1.laid (t' := tk) (a := hp.objs.size + 1) (o := exo (hp.objs.size + 1) C none) (h' := (hp.push (kdv_tup us)).push (HandSPX.excO C hp.objs.size)) kk sz (exo_ok hget)
  have e1 : us.length = n := r1.length.symm.trans l1
  have e2 : ws.length = ks.length := rz.length.symm.trans l2
  have r2 := hb.rel (Paired.cons (show RelV (V.ref (hp.objs.size + 1)) (Value.ref (hp.objs.size + 1)) from rfl) r1) rz
  have hus : us.length ≤ sizeLine := by rw [e1, sizeLine_eq]; omega
  refine wpAny_call (kwCall FB hT hC (looks_findIn I1.kIn iC) (fun self => bind_fn I1.kIn self tI) hus
    (codeAny_mono (F1.run _ X.stack _ _ ⟨Value.ref (hp.objs.size + 1) :: us, ks.zip ws⟩ (gg (Value.ref (hp.objs.size + 1) :: us) ws) _ _ (fun _ _ _ => False) (hr.make C us (ks.zip ws)) (I2.env0.make C us (ks.zip ws))
      (hb.to _ (Value.ref (hp.objs.size + 1) :: us) ws I2.kIn (by rw [List.length_cons, e1]) e2) r2 hq) fun r s' hq' => ?_))
  cases r with
  | error er => exact hx pins σ _ _ er s' I2 hq'
  | ok fl =>
    cases fl with
    | ret u =>
      obtain ⟨v, H3, I3, rv, ev, q3⟩ := I2.after hq'
      subst ev
      exact ⟨rv, ⟨V.ref (hp.objs.size + 1), H3, I3, rfl, q3⟩⟩
    | next => exact False.elim hq'
    | brk => exact False.elim hq'
    | cont => exact False.elim hq'
/-- C(e, ..) -/
theorem pe_xnew (B : XB bmB newId) (T : XC X.K C bmB newId) (iC : findIn X.K (.ref C) "__init__" = some (some (.ref fI))) (tI : typeIn X.K (.ref fI) = some (.type "function"))
    (F1 : FnOk X.prog X.w X.K X.mg X.base CX k fI fd ps sp) (hr : Room (k + 1) X.A) (hb : KBn X.K fd ps (n + 1) [] gg gV) (hx : Passes CX X (fun _ _ _ => False)) (hg : Gl X x) (hm : X.mg x = some (.ref C)) (ha : PA X (e :: es) t)
    (hdb : (x == ("__debug__" : Str)) = false := by decide) (he : starEach (e :: es) X.env = (false, eval e X.env) :: starEach es X.env := by rfl) (hpl : (backTo pos (starEach es X.env)).any (·.1) = false := by rfl) :
    PE X (.Call (.Name x p) (e :: es) [] pos) (tXnew C n 0 sp gV t tNil) := by
  refine ⟨fun pins s σ H Q I h => ?_⟩
  refine wpAny_Call_Name_kw (ld_glob I hg hm ?_ hdb)
  refine callWith_K (h₀ := X.base) I.ok.mod.kin T.kp (thn (ha.run pos pins s σ H _ I h) fun us s1 z => ?_) he hpl
  obtain ⟨vs, H1, I1, r1, l1, l2, hz, q1⟩ := z
  exact ⟨I1.kIn, xnew_run (ks := []) (ws := []) (zs := []) B T iC tI F1 hr hb hx I1 r1 .nil l1 rfl hz q1⟩
/-- C() -/
theorem pe_xnew0 (B : XB bmB newId) (T : XC X.K C bmB newId) (iC : findIn X.K (.ref C) "__init__" = some (some (.ref fI))) (tI : typeIn X.K (.ref fI) = some (.type "function"))
    (F1 : FnOk X.prog X.w X.K X.mg X.base CX k fI fd ps sp) (hr : Room (k + 1) X.A) (hb : KBn X.K fd ps 1 [] gg gV) (hx : Passes CX X (fun _ _ _ => False)) (hg : Gl X x) (hm : X.mg x = some (.ref C))
    (hdb : (x == ("__debug__" : Str)) = false := by decide) : PE X (.Call (.Name x p) [] [] pos) (tXnew C 0 0 sp gV tNil tNil) := by
  refine ⟨fun pins s σ H Q I h => ?_⟩
  refine wpAny_Call_Name_kw (ld_glob I hg hm ?_ hdb)
  obtain ⟨l1, l2, hz, q1⟩ := h
  exact callWith_K0 I.kIn T.kp (xnew_run (ks := []) (ws := []) (zs := []) (us := []) (vs := []) (n := 0) B T iC tI F1 hr hb hx I .nil .nil rfl rfl hz q1)
/-- C(k = e, ..) -/
theorem pe_xnewK (B : XB bmB newId) (T : XC X.K C bmB newId) (iC : findIn X.K (.ref C) "__init__" = some (some (.ref fI))) (tI : typeIn X.K (.ref fI) = some (.type "function"))
    (F1 : FnOk X.prog X.w X.K X.mg X.base CX k fI fd ps sp) (hr : Room (k + 1) X.A) (hb : KBn X.K fd ps 1 ks gg gV) (hx : Passes CX X (fun _ _ _ => False)) (hg : Gl X x) (hm : X.mg x = some (.ref C)) (hkw : PK X kws tk)
    (hall : (backToKw pos (keywordEach kws X.env)).all (·.1.isSome) = true := by rfl) (hks : (backToKw pos (keywordEach kws X.env)).filterMap (·.1) = ks := by rfl) (hdb : (x == ("__debug__" : Str)) = false := by decide)
    (hpl : ((backTo pos (starEach [] X.env)).any (·.1) || (backToKw pos (keywordEach kws X.env)).any (·.1.isNone)) = false := by rfl) :
    PE X (.Call (.Name x p) [] kws pos) (tXnew C 0 ks.length sp gV tNil tk) := by
  refine ⟨fun pins s σ H Q I h => ?_⟩
  refine wpAny_Call_Name_kw (ld_glob I hg hm ?_ hdb)
  refine callWith_KW0 (h₀ := X.base) I.ok.mod.kin T.kp hall (thn (hkw.run pos pins s σ H _ I h) fun ws s2 z => ?_) hpl
  obtain ⟨zs, H2, I2, rz, l1, l2, hz, q2⟩ := z
  refine ⟨I2.kIn, ?_⟩
  rw [hks]
  exact xnew_run (us := []) (vs := []) (n := 0) B T iC tI F1 hr hb hx I2 .nil rz rfl l2 hz q2
/-- C(), C without an __init__ of its own -/
theorem pe_xbare {Bn ii : String} (FB : ExcBaseFacts Bn newId ii bmB) (q : excIn X.K C bmB newId = true) (kC : keepIn X.K (.ref C) = true) (hg : Gl X x) (hm : X.mg x = some (.ref C)) (hdb : (x == ("__debug__" : Str)) = false := by decide) :
    PE X (.Call (.Name x p) [] [] pos) (fun σ H Q => ∀ a, H a = none → Q (.ref a) (upd H a (exo a C none))) := by
  refine ⟨fun pins s σ H Q I h => ?_⟩
  refine wpAny_Call_Name_kw (ld_glob I hg hm ?_ hdb)
  refine callWith_K0 I.kIn kC ?_
  show wpAny _ _ (call (.ref C) []) _ _ _
  obtain ⟨bm, N, nm, qn, bs, hdct, sn, sub, ab, col, dd, k0, k1, k2, k3, k5, mN, hC, hN, hni, T⟩ := exc_obj I.kIn q
  refine wpAny_call_exc_subT FB T hC hN hni (fun h' a hm => ?_) (Nat.zero_le _)
  have hn : H a = none := I.hok.gone hm.new
  obtain ⟨t, ht, _, _⟩ := hm.there
  exact ⟨.ref a, upd H a (exo a C none), I.laidN hm.keeps hm.new hn (exo_ok ht), rfl, h a hn⟩
end
end Pb

namespace Pb
open PySem PySem.W PyProof.Rows L2
/-- an exception that was caught and is kept: at a, of the class D, its dict -/
def exk (a : Addr) (D : Value) (d : Option Addr) : HO := .ext fun h => ∃ (oe : Obj) (vs : Array Value), h.get? a = some oe ∧ Zc D d oe ∧ oe.data = .fields vs
/-- an exception of the class at D, made or kept; its fields, if it has any -/
def ExI (H : Hp) (a D : Addr) : Option (List (Str × V)) → Prop
  | none => H a = some (exo a D none) ∨ H a = some (exk a (.ref D) none)
  | some fs => ∃ dx, (H a = some (exo a D (some dx)) ∧ H dx = some (exd dx fs)) ∨ (H a = some (exk a (.ref D) (some dx)) ∧ H dx = some (.xd fs))
theorem exk_ok {P : Program} {w : World} {H : Hp} {h : Heap} {a : Addr} {D : Value} {d : Option Addr} {oe : Obj} {vs : Array Value} (e : h.get? a = some oe) (z : Zc D d oe) (dd : oe.data = .fields vs) : ObjOk P w H h a (exk a D d) :=
  ⟨⟨oe, vs, e, z, dd⟩, ⟨oe, e⟩, fun _ _ ⟨o, v, q, r⟩ k => ⟨o, v, k o q, r⟩⟩
theorem exk_at {P : Program} {w : World} {H : Hp} {h : Heap} {a : Addr} {D : Value} {d : Option Addr} (hok : HOk P w H h) (e : H a = some (exk a D d)) : ∃ (oe : Obj) (vs : Array Value), h.get? a = some oe ∧ Zc D d oe ∧ oe.data = .fields vs := by
  have x : ObjOk P w H h a (.ext fun h => ∃ (oe : Obj) (vs : Array Value), h.get? a = some oe ∧ Zc D d oe ∧ oe.data = .fields vs) := hok a _ e
  exact x.1
theorem exI_inst {P : Program} {w : World} {H : Hp} {h : Heap} {a D : Addr} {fs : Option (List (Str × V))} (hok : HOk P w H h) (x : ExI H a D fs) :
    ∃ ox od, InstAt h a ox D od ∧ ∀ l, fs = some l → ∃ o, od = some o ∧ ∀ n v, l.lookup n = some v → ∃ u, lookIn n o = some (some u) ∧ RelV v u := by
  have fin : ∀ {dx : Addr} {ox : Obj} {vs : Array Value} {l : List (Str × V)} {mA : Str → Option Value}, h.get? a = some ox → ox.cls = .ref D → ox.dict = some dx → ox.data = .fields vs → h.Ns1 dx mA → (∀ f, RelO (l.lookup f) (mA f)) →
      ∃ ox od, InstAt h a ox D od ∧ ∀ l', some l = some l' → ∃ o, od = some o ∧ ∀ n v, l'.lookup n = some v → ∃ u, lookIn n o = some (some u) ∧ RelV v u := fun {dx ox vs l mA} e c dd dt hn rel => by
    obtain ⟨od, ho, hl⟩ := lookIn_ns hn
    refine ⟨ox, some od, ⟨e, c, by unfold notCls; rw [dt], by rw [dd]; exact ho⟩, fun l' el => ⟨od, rfl, fun n v hv => ?_⟩⟩
    cases el
    obtain ⟨u, hu, ru⟩ := RelO.some_of (v := v) (o := mA n) (by rw [← hv]; exact rel n)
    exact ⟨u, by rw [hl, hu], ru⟩
  cases fs with
  | none =>
    rcases x with x | x
    · obtain ⟨t1, e⟩ := exo_at hok x
      exact ⟨_, none, ⟨e, rfl, rfl, trivial⟩, fun l z => by cases z⟩
    · obtain ⟨oe, vs, e, z, dt⟩ := exk_at hok x
      exact ⟨oe, none, ⟨e, z.1, by unfold notCls; rw [dt], by rw [z.2]; trivial⟩, fun l z => by cases z⟩
  | some l =>
    obtain ⟨dx, ⟨x, y⟩ | ⟨x, y⟩⟩ := x
    · obtain ⟨t1, e⟩ := exo_at hok x
      obtain ⟨mA, hn, rel⟩ := exd_at hok y
      exact fin e rfl rfl rfl hn rel
    · obtain ⟨oe, vs, e, z, dt⟩ := exk_at hok x
      obtain ⟨mA, hn, rel⟩ := hok dx _ y
      exact fin e z.1 z.2 dt hn rel
/-- isinstance(e, c) of such an exception, c a class -/
def rIsX (K : Frag) : List V → Hp → VK → Prop := fun xs H Q => ∃ (a D : Addr) (fs : Option (List (Str × V))) (bmB : List Value) (newId : String) (c : V) (cv : Value) (b : Bool),
  xs = [.ref a, c] ∧ ExI H a D fs ∧ XC K D bmB newId ∧ RelV c cv ∧ (∀ u, RelV c u → u = cv) ∧ kitOne K (.ref D) cv = some b ∧ Q (.bl b) H
/-- .. c a tuple of classes -/
def rIsXT (K : Frag) : List V → Hp → VK → Prop := fun xs H Q => ∃ (a D t : Addr) (fs : Option (List (Str × V))) (bmB : List Value) (newId : String) (cs : List V) (cvs : List Value) (b : Bool),
  xs = [.ref a, .ref t] ∧ ExI H a D fs ∧ XC K D bmB newId ∧ SqT K H t cs ∧ (∀ us, Vals cs us → us = cvs) ∧ kitAny K (.ref D) cvs = some b ∧ Q (.bl b) H
section
variable {X : Cx}
theorem xc_cls {K : Frag} {C : Addr} {bmB : List Value} {newId : String} (T : XC K C bmB newId) : (clsIn K C).isSome = true := by
  obtain ⟨cd, h, _⟩ := any_some T.dic
  rw [h]
  rfl
theorem call_isX : CallR X (.builtin "isinstance") (rIsX X.K) := by
  intro pins s σ H xs us Q I r hyp
  obtain ⟨a, D, fs, bmB, newId, c, cv, b, ex, hx, T, _, hcv, e, q⟩ := hyp
  subst ex
  cases r with
  | cons rx rr =>
    cases rr with
    | cons rt rn =>
      cases rn
      cases rx
      have ec := hcv _ rt
      subst ec
      obtain ⟨ox, od, J, _⟩ := exI_inst I.hok hx
      exact kia_one (kitx_exc (xc_cls T) T.ga T.gg T.sub T.cl T.sg T.tk T.ob) I.kIn J e (fun z => nomatch z) fun tk => ⟨.bl b, H, I.kept (t' := tk) fun _ _ z => z, rfl, q⟩
theorem call_isXT : CallR X (.builtin "isinstance") (rIsXT X.K) := by
  intro pins s σ H xs us Q I r hyp
  obtain ⟨a, D, t, fs, bmB, newId, cs, cvs, b, ex, hx, T, hT, hcv, e, q⟩ := hyp
  subst ex
  cases r with
  | cons rx rr =>
    cases rr with
    | cons rt rn =>
      cases rn
      cases rx
      cases rt
      obtain ⟨its, rv, ⟨o, g1, g2, n, g3⟩, _⟩ := I.tuple hT
      have ec := hcv _ rv
      subst ec
      obtain ⟨oc, od, oda, osl⟩ := o
      dsimp only at g2 g3
      subst g2 g3
      obtain ⟨ox, od', J, _⟩ := exI_inst I.hok hx
      exact kia_tup (kitx_exc (xc_cls T) T.ga T.gg T.sub T.cl T.sg T.tk T.ob) I.kIn J g1 e (fun z => nomatch z) fun tk => ⟨.bl b, H, I.kept (t' := tk) fun _ _ z => z, rfl, q⟩
/-- e.f of such an exception -/
def tXfld (K : Frag) (n : Str) (te : TE) : TE := fun σ H Q => te σ H fun x H1 => ∃ (a D : Addr) (fs : List (Str × V)) (bmB : List Value) (newId : String) (v : V), x = .ref a ∧ ExI H1 a D (some fs) ∧ XC K D bmB newId ∧ findIn K (.ref D) n = some none ∧ fs.lookup n = some v ∧ Q v H1
theorem pe_xfld {e : Expr} {te : TE} {pos : Pos} {n : Str} (he : PE X e te) (hb : attributeBase e n X.env (eval e X.env) = eval e X.env := by rfl) : PE X (.Attribute e n pos) (tXfld X.K n te) := by
  refine ⟨fun pins s σ H Q I h => ?_⟩
  refine attr_of hb (thn (he.run pins s σ H _ I h) fun u s1 hh => ?_)
  obtain ⟨x, H1, I1, rx, a, D, fs, bmB, newId, v, ex, hx, T, hno, hl, q⟩ := hh
  subst ex
  cases (show u = Value.ref a from rx)
  obtain ⟨ox, od, J, hf⟩ := exI_inst I1.hok hx
  obtain ⟨o, eo, look⟩ := hf fs rfl
  subst eo
  obtain ⟨u, hu, ru⟩ := look n v hl
  exact HandSPX.exc_get I1.kIn J T.ga T.gg T.sub (findObj_own T.dic hno rfl hu) (handed_of ru) ⟨v, H1, I1.tok _, ru, q⟩
/-- what is tracked at an address may be tracked otherwise, nothing being written -/
theorem retrack {pins : List (Addr × Obj)} {σ : L2.St} {H : Hp} {s : Shared} {x : Addr} {o : HO} (I : Inv X pins σ H s) (mu : Mut (H x)) (there : ∃ u, s.heap.get? x = some u) (new : ObjOk X.prog X.w (upd H x o) s.heap x o) : Inv X pins σ (upd H x o) s :=
  I.write (t' := s.toks) (x := x) (e := x) (h' := s.heap) mu (.inl rfl) (fun b u _ z => z) there new
/-- an expression that gives a new exception with fields, raised -/
theorem pmk_x {e : Expr} {te : TE} (hx : X.ex = []) (he : PE X e te) :
    PMk X e (fun σ H Q => te σ H fun x H1 => ∃ (a C d : Addr) (fs : List (Str × V)), x = .ref a ∧ H1 a = some (exo a C (some d)) ∧ H1 d = some (exd d fs) ∧ d ≠ a ∧ Fr0 X.H_0 a ∧ Raises X (.ref C) ∧ Q (.ref C) (some d) (delH (upd H1 d (.xd fs)) a)) := by
  intro pins s σ H Q I h
  refine wpAny_mono (he.run pins s σ H _ I h) (fun u s1 hu => ?_) fun _ _ x => x
  obtain ⟨v, H1, I1, r1, a, C, d, fs, rfl, ha, hd, da, h0, hr, q⟩ := hu
  cases r1
  obtain ⟨mA, hn, rel⟩ := exd_at I1.hok hd
  have thd : ∃ u, s1.heap.get? d = some u := by
    obtain ⟨o, _, _, e', _⟩ := id hn
    exact ⟨o, e'⟩
  have I2 : Inv X pins σ (upd H1 d (.xd fs)) s1 := retrack I1 (by rw [hd]; exact True.intro) thd ⟨mA, hn, rel⟩
  have ha2 : (upd H1 d (.xd fs)) a = some (exo a C (some d)) := by
    rw [upd_ne (Ne.symm da)]
    exact ha
  obtain ⟨t1, ho⟩ := exo_at I2.hok ha2
  obtain ⟨G, gs, ga, J⟩ := I2.untrack ha2 h0 hx
  exact ⟨a, _, _, { s1 with heap := G }, delH (upd H1 d (.xd fs)) a, .ref C, some d, rfl, J, gs, ga, ho, ⟨rfl, rfl⟩, rfl, rfl, delH_same, rfl, I1.bare, hr, q⟩
end
end Pb

namespace Pb
open PySem PySem.W PyProof.Rows L2
/-- the clause tx of an except: by what an exception's class tells, it matches or not -/
def Clause (X : Cx) (tx : Expr) (CL : Value → Option Bool) : Prop :=
  ∀ (a : Addr) (oe : Obj) (pn pins : List (Addr × Obj)) (σ : L2.St) (H : Hp) (s : Shared) (cls : Value) (b : Bool) (Q : Value → Shared → Prop) (E : Value → Shared → Prop), Inv (X.suite a ((a, oe) :: pn)) pins σ H s →
    Looks (model X.prog X.w) s.heap (typeOf (.ref a)) cls → CL cls = some b →
    (∀ cv h', (∀ c o, s.heap.get? c = some o → h'.get? c = some o) → Looks (model X.prog X.w) h' (excMatches (.ref a) cv) b → Q cv { s with heap := h' }) →
    wpAny (model X.prog X.w) (X.A.mark (some (.ref a))) (eval tx X.env) Q E s
section
variable {X : Cx} {x y : Str} {c c' : Value} {np nq pos : Pos}
theorem cl_one (hc : Names X x c) : Clause X (.Name x np) (fun cls => exmOne X.K cls c) := by
  intro a oe pn pins σ H s cls b Q E S LT e fin
  have q := fin c s.heap (fun _ _ z => z) (exm_one (M := model X.prog X.w) S.kIn LT e)
  obtain ⟨hg, hdbg, hm | ⟨hm, hv, hnn⟩⟩ := hc
  · exact ld_glob (X := X.suite a ((a, oe) :: pn)) S hg hm q hdbg
  · exact ld_blt (X := X.suite a ((a, oe) :: pn)) S hg hm hv q hnn hdbg
theorem cl_two {k1} (hg : Gl X x) (hm : X.mg x = some c) (hg' : Gl X y) (hm' : X.mg y = some c') (hx : (x == ("__debug__" : Str)) = false := by decide) (hy : (y == ("__debug__" : Str)) = false := by decide)
    (hst : starEach [.Name x np, .Name y nq] X.env = [(false, eval (.Name x np) X.env), (false, eval (.Name y nq) X.env)] := by rfl) : Clause X (.Tuple [.Name x np, .Name y nq] k1 pos) (fun cls => exmAny X.K cls [c, c']) := by
  intro a oe pn pins σ H s cls b Q E S LT e fin
  refine wpAny_Tuple_spliced ?_
  rw [hst]
  show wpAny _ _ (spliced ((false, eval (.Name x np) X.env) :: (false, eval (.Name y nq) X.env) :: [])) _ _ _
  refine Calls.spliced_cons (ld_glob (X := X.suite a ((a, oe) :: pn)) S hg hm ?_ hx)
  refine Calls.spliced_cons (ld_glob (X := X.suite a ((a, oe) :: pn)) S hg' hm' ?_ hy)
  refine Calls.spliced_nil ⟨(by show 2 ≤ sizeLine; decide), ?_⟩
  have kp : ∀ d o, s.heap.get? d = some o → (s.heap.push { cls := .type "tuple", data := .seq [c, c'].toArray }).get? d = some o := fun d o z => Heap.get?_push_of_some _ z
  exact fin _ _ kp (exm_tup2 (M := model X.prog X.w) (S.kIn.keeps kp) (LT.keeps kp) (Heap.get?_push_size _ rfl) e)
end
section
variable {X : Cx} {pins : List (Addr × Obj)} {σ : L2.St} {H : Hp} {s : Shared}
/-- an object that is held fast, and wasn't there at the entry, is tracked from now on -/
theorem track {a : Addr} {oe : Obj} {vs : Array Value} {cls : Value} {d : Option Addr} (I : Inv X ((a, oe) :: pins) σ H s) (h0 : X.s_0.heap.get? a = none) (dt : oe.data = .fields vs) (hz : Zc cls d oe) (hp : ∀ p ∈ X.pn ++ pins, p.1 ≠ a) :
    Inv X pins σ (upd H a (exk a cls d)) s := by
  obtain ⟨ga, na, nL, nF, _⟩ := I.pin (a, oe) (List.mem_append_right _ List.mem_cons_self)
  dsimp only at ga na nL nF
  have neS : ∀ {b : Addr} {o : Obj}, X.s_0.heap.get? b = some o → b ≠ a := fun {b o} z e => by
    rw [e, h0] at z
    cases z
  have neH : ∀ {b : Addr} {o : HO}, H b = some o → b ≠ a := fun {b o} z e => by
    rw [e, na] at z
    cases z
  refine { ok := I.ok, os := I.os, bare := I.bare, base := ?_, loc := I.loc, cell := I.cell, free := ?_, freeC := fun x c e => ?_, pin := fun p hq => ?_, hok := fun b o e => ?_, len := I.len }
  · exact { keep := I.base.keep
            slot := I.base.slot
            free := fun b o z n hx => by rw [upd_ne (neS z)]; exact I.base.free b o z n hx
            there := I.base.there
            tups := fun b xs z => by rw [upd_ne (neH (I.base.tups b xs z))]; exact I.base.tups b xs z
            frzs := fun b o u z => by rw [upd_ne (neH (I.base.frzs b o u z))]; exact I.base.frzs b o u z
            tbls := fun b ps z => by
              obtain ⟨more, y⟩ := I.base.tbls b ps z
              exact ⟨more, by rw [upd_ne (neH y)]; exact y⟩ }
  · rw [upd_ne nL.symm]
    exact I.free
  · obtain ⟨v, o, go, dc⟩ := I.cell x c e
    have nc : c ≠ a := fun z => by
      rw [z, ga] at go
      cases go
      rw [dt] at dc
      cases dc
    rw [upd_ne nc]
    exact I.freeC x c e
  · have hq' : p ∈ X.pn ++ (a, oe) :: pins := by
      rcases List.mem_append.mp hq with z | z
      · exact List.mem_append_left _ z
      · exact List.mem_append_right _ (List.mem_cons_of_mem _ z)
    obtain ⟨g1, g2, g3⟩ := I.pin p hq'
    exact ⟨g1, by rw [upd_ne (hp p hq)]; exact g2, g3⟩
  · by_cases hb : b = a
    · subst hb
      rw [upd_same] at e
      cases e
      exact exk_ok ga hz dt
    · rw [upd_ne hb] at e
      exact (I.hok b o e).stay (fun _ _ _ z => z) (fun c z => by rw [upd_ne (neH z)]; exact z) fun c xs z => by rw [upd_ne (neH z)]; exact z
end
/-- what «except tx as n» wishes of an exception: behind the suite it is kept (slot i, n's, is empty) -/
def wG (CL : Value → Option Bool) (i : Nat) (ts : Addr → Value → Option Addr → TS) (Wout : WX) (D : Ends) : WX := fun cls d σ H => ∃ b, CL cls = some b ∧
  (b = true → ∀ a, H a = none → ts a cls d
    { nx := fun σ' H' => H' a = none → D.nx (σ'.set i none) (upd H' a (exk a cls d)), rt := fun v H' => H' a = none → D.rt v (upd H' a (exk a cls d)),
      bk := fun σ' H' => H' a = none → D.bk (σ'.set i none) (upd H' a (exk a cls d)), ct := fun σ' H' => H' a = none → D.ct (σ'.set i none) (upd H' a (exk a cls d)) } (σ.set i (some (.ref a))) H) ∧
  (b = false → Wout cls d σ H)
theorem fly_push {B h h' : Heap} {l : List Env} {e : Addr} {Z : Obj → Prop} (x : HandSPX.FlyingZ B l e Z h) (k : ∀ c o, h.get? c = some o → h'.get? c = some o) : HandSPX.FlyingZ B l e Z h' := by
  obtain ⟨x1, x2, x3, oe, vs, T, oT, ts, y1, y2, y3, y4, y5, y6, y7, y8, y9⟩ := x
  exact ⟨fun b o z => k b o (x1 b o z), x2, x3.of_keeps fun b o z _ => ⟨o, k b o z, rfl⟩, oe, vs, T, oT, ts, k _ _ y1, y2, y3, y4, y5, y6, k _ _ y7, y8, y9⟩
theorem slots_push {h h1 h2 : Heap} (x : h.UpToSlots h1) (k : ∀ c o, h1.get? c = some o → h2.get? c = some o) : h.UpToSlots h2 := fun b o z n => by
  obtain ⟨sl, y⟩ := x b o z n
  exact ⟨sl, k _ _ y⟩
section
variable {X : Cx} {n : Str} {tx : Expr} {CL : Value → Option Bool} {i : Nat} {body suite : List Stmt} {b₀ : Stmt} {pos pos' : Pos} {tb : WX → TS} {ts : Addr → Value → Option Addr → TS} {Wout : WX}
theorem ps_tryG (hs : X.stack = X.env :: X.outer) (hf : X.env.frame = some X.env.locals) (hex : X.ex = []) (hN : X.N.Nodup) (hi : X.N[i]? = some n) (hln : X.env.kindOf n = some .local) (hc : Clause X tx CL) (tk : Takes X Wout)
    (hb : ∀ (W : WX) (pn : List (Addr × Obj)) (xe : Value → Shared → Prop), Takes (X.tr pn xe) W → PassesOwn (model X.prog X.w) X.A X.env xe → PSs (X.tr pn xe) body (tb W))
    (hsu : ∀ (a : Addr) (oe : Obj) (cls : Value) (d : Option Addr) (pn : List (Addr × Obj)), Zc cls d oe → (∃ vs, oe.data = .fields vs) → PSs (X.suite a ((a, oe) :: pn)) (b₀ :: suite) (ts a cls d)) :
    PS X (.Try body [.ExceptHandler (some tx) (some n) (b₀ :: suite) pos'] [] [] pos) (fun D σ H => tb (wG CL i ts Wout D) D σ H) := by
  refine ⟨fun pins s σ H D I hyp => ?_⟩
  have ok := I.ok
  have frm : X.A.frames = some (X.env :: X.outer) := by rw [ok.frames, hs]
  refine wpAny_Try_except ?_
  refine wpAny_mono ((hb (wG CL i ts Wout D) (X.pn ++ pins) (fun e s₁ => wpAny (model X.prog X.w) X.A (noteFrame e X.env) (fun _ s₂ => wpAny (model X.prog X.w) X.A (setFlight e none)
    (fun _ s₃ => wpAny (model X.prog X.w) X.A (handleBy e X.env [.ExceptHandler (some tx) (some n) (b₀ :: suite) pos']) (SP X pins D) X.xe s₃) X.xe s₂) X.xe s₁) (fun u s' xx => ?_) PassesOwn.looking).run [] s σ H D (I.toTry _) hyp) (fun f s1 hsp => ?_) (fun e s1 he => he)
  · obtain ⟨a, B, sI, pins', σ', H', cls, d, eu, J', nb, up, sky, na, os, ag, b, hCL, hyes, hno⟩ := xx
    subst eu
    have J : Inv X pins σ' H' sI := J'.ofTry ok
    have sky2 : Sky B (X.env :: X.outer) a (Zc cls d) X.env.locals s'.heap := by
      rw [← hs]
      exact sky
    show wpAny (model X.prog X.w) X.A (noteFrame (.ref a) X.env) _ _ _
    refine Sky.land Zc.steady frm hf sky2 fun h3 fl3 up3 => ?_
    have J3 : Inv X pins σ' H' { s' with heap := h3 } := J.landed nb fl3.1 (up.trans up3) os ag
    obtain ⟨oe3, vs3, he3, hz3, hd3⟩ := fl3.there
    have nfr : a ∉ frs (X.env :: X.outer) := fun hm => by
      obtain ⟨_, o', e', hnf⟩ := fl3.2.2.1.mem hm
      rw [he3] at e'
      cases e'
      exact hnf _ hd3
    have nL : a ≠ X.env.locals := fun z => nfr (List.mem_filterMap.mpr ⟨X.env, List.mem_cons_self, by rw [hf, z]⟩)
    have nF : a ∉ X.fs := fun hm => by
      obtain ⟨e, he, q⟩ := List.mem_filterMap.mp hm
      exact nfr (List.mem_filterMap.mpr ⟨e, List.mem_cons_of_mem _ he, q⟩)
    have nI : sI.heap.get? a = none := by
      cases q : sI.heap.get? a with
      | none => rfl
      | some o =>
        have z := nb a o q (by rw [hs]; exact nfr)
        rw [fl3.2.1] at z
        cases z
    have n0 : X.s_0.heap.get? a = none := by
      cases q : X.s_0.heap.get? a with
      | none => rfl
      | some o =>
        obtain ⟨o', z⟩ := J.base.there a o q (by rw [hex]; exact fun z => nomatch z)
        rw [nI] at z
        cases z
    have nP : ∀ p ∈ X.pn ++ pins, p.1 ≠ a := fun p hp z => by
      have y := (J.pin p hp).1
      rw [z, nI] at y
      cases y
    have S3 := J3.suite he3 hd3 na nL nF
    refine wpAny_handleBy_cons (codeAny_handlers_test ?_) (by intro q; cases q)
    have LT : Looks (model X.prog X.w) h3 (typeOf (.ref a)) cls := fun A Q E s k q => wpAny_typeOf_ref (k _ _ he3) (by rw [hz3.1]; exact q)
    refine hc a oe3 (X.pn ++ pins) [] σ' H' _ cls b _ _ S3 LT hCL fun cv h5 k5 LM => ?_
    refine LM.here ?_
    have fl5 : HandSPX.FlyingZ B (X.env :: X.outer) a (Zc cls d) h5 := fly_push fl3 k5
    have up5 : sI.heap.UpToSlots h5 := slots_push (up.trans up3) k5
    cases b with
    | true =>
      refine codeAny_handlers_suite_as ?_
      refine HandSPX.lands_againZ fl5 fun h4 fl4 up4 => ?_
      have J4 : Inv X pins σ' H' { s' with heap := h4 } := J.landed nb fl4.1 (up5.trans up4) os ag
      obtain ⟨oe4, vs4, he4, hz4, hd4⟩ := fl4.there
      have S4 := J4.suite he4 hd4 na nL nF
      refine store_ok (X := X.suite a ((a, oe4) :: (X.pn ++ pins))) (v := .ref a) S4 hN hi (.inl hln) rfl (fun s5 S5 => ?_) (.inr hln)
      refine wpAny_mono ((hsu a oe4 cls d (X.pn ++ pins) hz4 ⟨_, hd4⟩).run [] s5 _ H' _ S5 (hyes rfl a na)) (fun f s6 hsp => ?_) (fun _ _ z => False.elim z)
      have fin : ∀ {σ6 : L2.St} {H6 : Hp} {Q : Shared → Prop}, Inv (X.suite a ((a, oe4) :: (X.pn ++ pins))) [] σ6 H6 s6 → (H6 a = none → ∀ s7, Inv X pins (σ6.set i none) (upd H6 a (exk a cls d)) s7 → Q s7) →
          wpAny (model X.prog X.w) X.A (do bindName X.env n .none; unbindBehindTheSuite X.env n pos') (fun _ s7 => Q s7) X.xe s6 := fun {σ6 H6 Q} S6 hq => by
        have J6 : Inv X pins σ6 H6 s6 := S6.unsuite ok
        have pa := S6.pin (a, oe4) (List.mem_append_left _ List.mem_cons_self)
        have J6' : Inv X ((a, oe4) :: pins) σ6 H6 s6 := J6.pins_of fun p hp => by
          rcases List.mem_cons.mp hp with e | z
          · rw [e]
            exact pa
          · exact J6.pin p (List.mem_append_right _ z)
        exact gone_ok J6' hN hi hln fun s7 J7 => hq pa.2.1 s7 (track J7 n0 hd4 hz4 nP)
      cases f with
      | next =>
        obtain ⟨σ6, H6, S6, q6⟩ := hsp
        exact fin S6 fun e s7 J7 => ⟨_, _, J7, q6 e⟩
      | brk =>
        obtain ⟨σ6, H6, S6, q6⟩ := hsp
        exact fin S6 fun e s7 J7 => ⟨_, _, J7, q6 e⟩
      | cont =>
        obtain ⟨σ6, H6, S6, q6⟩ := hsp
        exact fin S6 fun e s7 J7 => ⟨_, _, J7, q6 e⟩
      | ret u =>
        obtain ⟨v6, σ6, H6, S6, r6, q6⟩ := hsp
        exact fin S6 fun e s7 J7 => ⟨_, _, _, J7, r6, q6 e⟩
    | false =>
      show wpAny _ X.A (handleBy (.ref a) X.env []) _ _ _
      refine wpAny_handleBy_nil ?_
      obtain ⟨y1, y2, y3, oe, vs, T, oT, ts', he, hz, hd, h1, hr⟩ := id fl5
      unfold PySem.passOn
      refine wpAny_bind (wpAny_field he hd h1 ?_)
      rw [if_neg (show ¬ ((Value.ref T == Value.none) = true) from by simp)]
      have fin : wpAny (model X.prog X.w) X.A (setFlight (.ref a) X.env.frame) (fun _ s4 => wpAny (model X.prog X.w) X.A (throw (.ref a) : Sem Flow) (SP X pins D) X.xe s4) X.xe { s' with heap := h5 } := by
        rw [hf]
        refine HandSPX.setFlight_upZ fl5 fun h4 hh4 up4 => wpAny_throw (tk _ _ ?_)
        exact ⟨a, B, sI, pins, σ', H', cls, d, rfl, J, nb, up5.trans up4, .inr (.inr (by rw [hs]; exact hh4)), na, os, ag, hno rfl⟩
      first
        | exact wpAny_bind (wpAny_pure (wpAny_bind fin))
        | exact wpAny_bind fin
  · cases f with
    | next =>
      obtain ⟨σ', H', J', q⟩ := hsp
      exact wpAny_execs_nil ⟨σ', H', J'.ofTry ok, q⟩
    | brk =>
      obtain ⟨σ', H', J', q⟩ := hsp
      exact ⟨σ', H', J'.ofTry ok, q⟩
    | cont =>
      obtain ⟨σ', H', J', q⟩ := hsp
      exact ⟨σ', H', J'.ofTry ok, q⟩
    | ret u =>
      obtain ⟨v, σ', H', J', r, q⟩ := hsp
      exact ⟨v, σ', H', J'.ofTry ok, r, q⟩
end
end Pb

/-! ### defs that show things: called where nothing is being shown -/
namespace Pb
open PySem PySem.Spec PyProof.Rows L2
/-- as FnOk, where no repr is under way -/
structure FnG (P : Program) (w : World) (K : PySem.W.Frag) (mg : Str → Option Value) (base : Heap) (CX : CXT) (k : Nat) (f : Addr) (fd : FuncData) (ps : List Str) (sp : Sp) : Prop where
  len : ∀ vs H Q E, sp vs H Q E → vs.length = ps.length
  run : ∀ (A : Around) (outer : List Env) (s : Shared) (H : Hp) (args : Args) (us : List Value) (vs : List V) (Q : VK) (E : XK), A.guards = some [] → Room k A → Env0 P w K mg base A outer s H → BindsTo s fd args (ps.zip us) →
    Vals vs us → sp vs H Q E → codeAny (model P w) A (.call (.ref f) args) (CR CX outer P w H s Q E) s
section
variable {P : Program} {w : World} {K : PySem.W.Frag} {mg : Str → Option Value} {base : Heap} {CX : CXT} {k : Nat} {f : Addr} {ps : List Str} {sp : Sp}
theorem FnG.of {fd : FuncData} (F : FnOk P w K mg base CX k f fd ps sp) : FnG P w K mg base CX k f fd ps sp :=
  ⟨F.len, fun A outer s H args us vs Q E _ => F.run A outer s H args us vs Q E⟩
theorem FnG.mono {fd : FuncData} {j : Nat} (F : FnG P w K mg base CX k f fd ps sp) (h : k ≤ j) : FnG P w K mg base CX j f fd ps sp :=
  ⟨F.len, fun A outer s H args us vs Q E hg hr => F.run A outer s H args us vs Q E hg (hr.mono h)⟩
variable {name qual : Str} {params : Arguments} {body : List Stmt} {scope : Scope} {dvs : List V} {kws : List (Str × V)} {fd : FuncData} {N : List Str}
theorem fnG_of (F : FunD K name qual params body scope dvs kws f fd) (S : FnScope N ps scope) (len : ∀ vs H Q E, sp vs H Q E → vs.length = ps.length)
    (hbody : ∀ (cdv : Value) (A : Around) (outer : List Env) (s : Shared) (H : Hp) (vs : List V) (Q : VK) (E : XK), A.guards = some [] → Room k (A.deeper (envOfC qual scope s.heap.objs.size f cdv)) → sp vs H Q E →
      ∃ t, PSs (cxOf CX P w K mg base N qual scope f cdv A outer s H E) body t ∧ t { nx := fun _ H' => Q .non H', rt := Q } (start N vs) H) : FnG P w K mg base CX (k + 1) f fd ps sp := by
  obtain ⟨oc, od, dV, kV, doc, pm, an, cdv, ct, osl, efd, lk, hcd, _, _⟩ := F.ex
  subst efd
  refine ⟨len, fun A outer s H args us vs Q E hg hr e0 hb r hsp => ?_⟩
  have hl := len _ _ _ _ hsp
  have k1 : K.In s.heap := e0.mod.kin.keeps fun b o e => (e0.bs b o e).1
  have k2 : s.heap.NoLimit := e0.mod.nolimit.keeps fun b o e => (e0.bs b o e).1
  have k3 : ∀ y ∈ ps.zip us, scope.names.lookup y.1 = some .local ∨ (scope.names.lookup y.1 = some .cell ∧ ((cellsFrom (s.heap.objs.size + 1) scope.names []).lookup y.1).isSome = true) := by
    rintro ⟨y, v⟩ hy
    rcases S.par y (List.of_mem_zip hy).1 with z | z
    · exact .inl z
    · exact .inr ⟨z, PySem.W.cellsFrom_some _ _ _ (.inl z)⟩
  refine codeAny_call_function hr.depth (k1 _ _ lk) rfl S.co S.gen rfl (PySem.W.codeRec_of k1 hcd) (hb _ _ _ _ ?_)
  refine wpAny_newFunctionEnv_cells S.kind k3 fun env he s1 x => ?_
  subst he
  refine ⟨k2.keeps x.toInCall.keep, codeAny_func ?_⟩
  obtain ⟨t, ht, hq⟩ := hbody cdv A outer s H vs Q E hg (hr.deeper _) hsp
  have I : Inv (cxOf CX P w K mg base N qual scope f cdv A outer s H E) [] (start N vs) H s1 := inv_start S hr.hd e0 hl r x
  refine wpAny_mono (ht.run [] s1 (start N vs) H _ I hq) (fun fl s' hs => ?_) fun e s' hs => hs
  cases fl with
  | ret u =>
    obtain ⟨v, σ', H', J, rv, q⟩ := hs
    exact ⟨v, H', J.os, J.bare, J.base, J.hok, rv, q⟩
  | next =>
    obtain ⟨σ', H', J, q⟩ := hs
    exact ⟨V.non, H', J.os, J.bare, J.base, J.hok, rfl, q⟩
  | brk =>
    obtain ⟨_, _, _, q⟩ := hs
    exact q.elim
  | cont =>
    obtain ⟨_, _, _, q⟩ := hs
    exact q.elim
end
section
variable {X : Cx} {CX : CXT} {k : Nat} {f : Addr} {fd : FuncData} {ps : List Str} {sp : Sp} {ds : List Value} {dvs : List V} {E : XK} {x : Str} {p pos : Pos} {e : Expr} {es : List Expr} {t : TA}
/-- f(e, ..) of such a def -/
theorem pe_callG (F : FnG X.prog X.w X.K X.mg X.base CX k f fd ps sp) (gd : X.A.guards = some []) (hr : Room k X.A) (hg : Gl X x) (hm : X.mg x = some (.ref f)) (hk : PySem.W.keepIn X.K (.ref f) = true) (hb : Binds X.K fd ps ds) (hd : Vals dvs ds) (hx : Passes CX X E)
    (ha : PA X (e :: es) t) (hdb : (x == ("__debug__" : Str)) = false := by decide) (he : starEach (e :: es) X.env = (false, eval e X.env) :: starEach es X.env := by rfl) (hpl : (backTo pos (starEach es X.env)).any (·.1) = false := by rfl) :
    PE X (.Call (.Name x p) (e :: es) [] pos) (tCall sp dvs E t) := by
  refine ⟨fun pins s σ H Q I hyp => ?_⟩
  refine wpAny_Call_Name_kw (ld_glob I hg hm ?_ hdb)
  refine PySem.W.callWith_K (h₀ := X.base) I.ok.mod.kin hk (thn (ha.run pos pins s σ H _ I hyp) fun us s1 z => ?_) he hpl
  obtain ⟨vs, H1, I1, r, q⟩ := z
  refine ⟨I1.kIn, ?_⟩
  have r2 : Vals (vs ++ dvs) (us ++ ds) := r.append hd
  have hl : (us ++ ds).length = ps.length := by
    rw [← r2.length]
    exact F.len _ _ _ _ q
  refine wpAny_call (codeAny_mono (F.run X.A X.stack s1 H1 ⟨us, []⟩ (us ++ ds) (vs ++ dvs) Q E gd hr I1.env0 (hb s1 us I1.kIn hl) r2 q) fun r s' hq => ?_)
  cases r with
  | error e => exact hx pins σ H1 s1 e s' I1 hq
  | ok fl =>
    cases fl with
    | ret u => exact I1.after hq
    | next => exact False.elim hq
    | brk => exact False.elim hq
    | cont => exact False.elim hq
/-- repr(x) of data at any depth -/
def rRepr (K : PySem.W.Frag) : List V → Hp → VK → Prop := fun xs H Q => ∃ (a : Addr) (d : PyData), xs = [.ref a] ∧ Dp K H (.ref a) d ∧ d.showable = true ∧ d.hasDict = false ∧ d.depth ≤ 60 ∧ d.shown.length ≤ sizeLine ∧ Q (.str d.shown) H
theorem call_repr (gd : X.A.guards = some []) (hr : Room k X.A) : CallR X (.builtin "repr") (rRepr X.K) := by
  intro pins s σ H xs us Q I r hyp
  obtain ⟨a, d, ex, hd, h1, h2, h3, h4, q⟩ := hyp
  subst ex
  cases r with
  | cons rx rn =>
    cases rn
    obtain ⟨as, rd⟩ := Dp.reads I d _ _ hd rx
    cases rx
    have hu := hr.un
    refine repr_of_reads' rd h1 (PyData.noDict_hsm h2) gd (by omega) (fun _ _ z => z) (fun h' u tk kp => ?_) h4
    exact ⟨.str d.shown, H, I.kept (t' := tk) kp, ⟨u, rfl⟩, q⟩
end
end Pb

/-! ### the end: a law whose def shows things -/
namespace Pb
open PySem PySem.Spec PyProof.Rows L2
theorem lawG {P : Program} {w : World} {K : PySem.W.Frag} {mg mb : Str → Option Value} {CX : CXT} {k : Nat} {fa a : Addr} {fd : FuncData} {x : Str} {sp : Sp} {s₁ : Shared} {vs : List Value} {ns : List Int} (KX : K.In s₁.heap) (hns : s₁.heap.Ns mainGlobals mg)
    (hb : s₁.heap.Ns builtinsNs mb) (hbb : ∀ x : Str, x ≠ "__name__" → mb x = bootBuiltins x) (hlim : s₁.heap.NoLimit) (hg : s₁.gens = #[]) (ha : s₁.heap.get? a = some { cls := .type "list", data := .seq vs.toArray }) (hi : IntsAre vs ns) (hl : ns.length ≤ sizeLine)
    (hr : Room k callerA) (F : ∀ base : Heap, K.In base → base.Ns mainGlobals mg → FnG P w K mg base CX k fa fd [x] sp) (hbind : ∀ (s : Shared) (u : Value), BindsTo s fd ⟨[u], []⟩ [(x, u)])
    (hsp : ∀ H : Hp, Only H → SqL K H a (ns.map V.int) → sp [.ref a] H (fun v _ => v = .bl true) fun _ _ _ => False) (hCX : ∀ H e s', CX [] H s₁ (fun _ _ _ => False) e s' → False) :
    codeAny (model P w) callerA (.call (.ref fa) ⟨[.ref a], []⟩) (fun r s' => r = .ok (.ret (.bool true)) ∧ OldK s₁.heap s'.heap ∧ s'.os = s₁.os ∧ AllBare s'.gens) s₁ := by
  have vi := vals_ints hi
  have li := hi.length
  have core : ∀ H : Hp, Only H → SqL K H a (ns.map V.int) → HOk P w H s₁.heap → (∀ b, H b ≠ none → b = a) → (H a ≠ none → K.lookup a = none) →
      codeAny (model P w) callerA (.call (.ref fa) ⟨[.ref a], []⟩) (fun r s' => r = .ok (.ret (.bool true)) ∧ OldK s₁.heap s'.heap ∧ s'.os = s₁.os ∧ AllBare s'.gens) s₁ := fun H hO hS hok hA hK => by
    have free : ∀ {b : Addr}, b ≠ a → H b = none := fun {b} nb => by
      cases q : H b with
      | none => rfl
      | some u => exact absurd (hA b (by rw [q]; simp)) nb
    have noA : ∀ {b : Addr} {o : Obj} {es : Array DictEntry} {ep : Nat}, s₁.heap.get? b = some o → o.data = .dict es ep → H b = none := fun {b o es ep} e d => free fun z => by
      rw [z, ha] at e
      cases e
      cases d
    have nsK : ∀ {b : Addr} {m : Str → Option Value}, s₁.heap.Ns b m → (hidT s₁.heap H).Ns b m := fun {b m} z => by
      obtain ⟨o, es, ep, e, d, r⟩ := z
      exact ⟨o, es, ep, hidT_get e (noA e d), d, r⟩
    have kb : K.In (hidT s₁.heap H) := fun b o e => hidT_get (KX b o e) (by
      cases q : H b with
      | none => rfl
      | some u =>
        have z := hA b (by rw [q]; simp)
        rw [z] at e q
        rw [hK (by rw [q]; simp)] at e
        cases e)
    have mo : Mod K mg (hidT s₁.heap H) := by
      obtain ⟨mc, l1, l2⟩ := hlim
      exact ⟨kb, nsK hns, ⟨mb, nsK hb, hbb⟩, ⟨mc, nsK l1, l2⟩⟩
    have e0 : Env0 P w K mg (hidT s₁.heap H) callerA [] s₁ H :=
      ⟨rfl, mo, fun b o e => of_hidT e, Nat.le_of_eq (hidT_size _ _), trivial, (fun b z => nomatch (show b ∈ ([] : List Addr) from z)), hok, .of_eq hg⟩
    refine codeAny_mono ((F _ kb (nsK hns)).run callerA [] s₁ H ⟨[.ref a], []⟩ [.ref a] [.ref a] _ _ rfl hr e0 (hbind s₁ (.ref a)) (.cons rfl .nil) (hsp H hO hS)) fun r s' z => ?_
    cases r with
    | error e => exact (hCX H e s' z).elim
    | ok fl =>
      cases fl with
      | next => exact z.elim
      | brk => exact z.elim
      | cont => exact z.elim
      | ret u =>
        obtain ⟨v, H', os, bare, un, hok', rv, q⟩ := z
        cases (show v = .bl true from q)
        cases (show u = Value.bool true from rv)
        refine ⟨rfl, OldK.of_keep fun b o e => ?_, os, bare⟩
        rcases hO b with y | ⟨ob, xs, y⟩
        · exact un.keep b o e y (fun z => nomatch (show b ∈ ([] : List Addr) from z)) (fun z => nomatch z)
        · obtain ⟨e1, _⟩ := hok b _ y
          obtain ⟨e2, _⟩ := hok' b _ (un.frzs b ob _ y)
          rw [e] at e1
          cases e1
          exact e2
  cases hk : K.lookup a with
  | some o =>
    have e := KX a o hk
    rw [ha] at e
    cases e
    refine core (fun _ => none) (fun _ => .inl rfl) (.inr ⟨_, vs.toArray, _, hk, rfl, rfl, rfl, ?_, by simpa using vi⟩) (fun b u z => by cases z) (fun b z => absurd rfl z) fun z => absurd rfl z
    rw [List.size_toArray, li]
    exact hl
  | none =>
    have y : upd (fun _ => none) a (.frz { cls := .type "list", data := .seq vs.toArray } (.lst (ns.map V.int))) a = some (.frz { cls := .type "list", data := .seq vs.toArray } (.lst (ns.map V.int))) := upd_same
    refine core (upd (fun _ => none) a (.frz { cls := .type "list", data := .seq vs.toArray } (.lst (ns.map V.int)))) (fun b => ?_) (.inl (.inr ⟨_, y⟩)) (fun b u z => ?_) (fun b z => ?_) fun _ => hk
    · by_cases e : b = a
      · rw [e]
        exact .inr ⟨_, _, y⟩
      · exact .inl (upd_ne e)
    · by_cases e : b = a
      · rw [e, y] at z
        cases z
        rw [e]
        exact ⟨ha, by rw [List.length_map]; exact hl, vs, _, vi, ha⟩
      · rw [upd_ne e] at z
        cases z
    · by_cases e : b = a
      · exact e
      · exact absurd (upd_ne e) z
theorem walkG {l : PySem.W.OpenLaw} {n k : Nat} {q : Program} {loose : List Str} {XP : (Str → Option Value) → Heap → Prop} {YP : World → Heap → Prop} {d : DefRec} {CX : CXT} {x : Str} (hn : l.most = some n) (hn2 : n ≤ sizeLine) (hdf : d.params.defaults = []) (hr : Room k callerA)
    (F : ∀ (w : World) (mg : Str → Option Value) (fa : Addr) (h : Heap), YP w h → h.Ns mainGlobals mg → mg d.name = some (.ref fa) →
      ∃ (K : PySem.W.Frag) (fd : FuncData) (sp : Sp), K.In h ∧ (∀ (s : Shared) (u : Value), BindsTo s fd ⟨[u], []⟩ [(x, u)]) ∧ (∀ (H : Hp) (a : Addr) (ns : List Int), ns.length ≤ n → Only H → SqL K H a (ns.map V.int) → sp [.ref a] H (fun v _ => v = .bl true) fun _ _ _ => False) ∧
        ∀ base : Heap, K.In base → base.Ns mainGlobals mg → FnG l.prog w K mg base CX k fa fd [x] sp)
    (hCX : ∀ (H : Hp) (s : Shared) (e : Value) (s' : Shared), CX [] H s (fun _ _ _ => False) e s' → False) : PySem.W.WalkO q loose XP YP l.row.toRowW d [] (fun f vs => PySem.call f vs) := by
  refine Att.attach_call hn hdf fun w s₀ s₁ mg mb fa o pm cd doc a vs ns G Y ho hd hcd hmg hobj hints hlen hg => ?_
  obtain ⟨K, fd, sp, KX, bb, hs, hF⟩ := F w mg fa _ Y G.T.g hmg
  exact lawG KX G.T.g G.T.b G.T.builtins G.T.nolimit hg hobj hints (Nat.le_trans hlen hn2) hr hF bb (fun H hO hS => hs H a ns hlen hO hS) fun H e s' => hCX H s₁ e s'
/-! ### the head's facts: any checks of the written part, and the defs -/
def obsX (cks : List (PySem.W.Frag → Bool)) (fn : List He.DefD) (K : PySem.W.Frag) : He.AlD := ((cks.all fun c => c K) && fn.all fun d => d.ok K, fn.map fun d => He.fnW K d.at_)
def SaysX (cks : List (PySem.W.Frag → Bool)) (fn : List He.DefD) (K : PySem.W.Frag) : Prop := obsX cks fn K = He.valD fn
def obsXG (n : Nat) (cks : List (PySem.W.Frag → Bool)) (fn : List He.DefD) (g : Addr → Option Obj) : He.AlD := obsX cks fn (He.frG g (He.asD g n))
def hookX (n : Nat) (cks : List (PySem.W.Frag → Bool)) (fn : List He.DefD) : PySem.W.Hook where
  α := He.AlD
  obs := fun s => obsXG n cks fn s.heap.get?
  val := fun _ => He.valD fn
  says := fun _ h => ∃ K : PySem.W.Frag, K.In h ∧ SaysX cks fn K
  of := fun _ _ e => ⟨_, He.frG_in, e⟩
  keeps := fun _ _ _ ⟨K, hK, c⟩ k => ⟨K, PySem.W.Frag.In.keeps hK k, c⟩
theorem obsXG_eq {n : Nat} {cks : List (PySem.W.Frag → Bool)} {fn : List He.DefD} {g : Addr → Option Obj} {s : Shared} (h : ∀ a, g a = s.heap.get? a) : obsXG n cks fn g = (hookX n cks fn).obs s := by
  have e : g = s.heap.get? := funext h
  rw [e]
  rfl
section
variable {cks : List (PySem.W.Frag → Bool)} {fn : List He.DefD} {K : PySem.W.Frag}
theorem SaysX.all (c : SaysX cks fn K) : (cks.all fun c => c K) = true := (He.ba (show ((cks.all fun c => c K) && fn.all fun d => d.ok K) = true from congrArg (fun z : He.AlD => z.1) c)).1
theorem SaysX.fact (c : SaysX cks fn K) (i : Nat) {f : PySem.W.Frag → Bool} (h : cks[i]? = some f := by rfl) : f K = true := List.all_eq_true.mp c.all f (List.mem_of_getElem? h)
theorem SaysX.def_ (c : SaysX cks fn K) (i : Nat) {d : He.DefD} (h : fn[i]? = some d := by rfl) : ∃ fd, FunD K d.name d.qual d.params d.body d.scope (d.dvs K) (d.kws K) (He.fAd K d.at_) fd := by
  have c2 := (He.ba (show ((cks.all fun c => c K) && fn.all fun d => d.ok K) = true from congrArg (fun z : He.AlD => z.1) c)).2
  have e : fn.map (fun d => He.fnW K d.at_) = fn.map He.DefD.val := congrArg (fun z : He.AlD => z.2) c
  have e2 : (fn.map fun d => He.fnW K d.at_)[i]? = (fn.map He.DefD.val)[i]? := by rw [e]
  rw [List.getElem?_map, List.getElem?_map, h] at e2
  exact He.DefD.funD (Option.some.inj e2) (List.all_eq_true.mp c2 d (List.mem_of_getElem? h))
end
def gloB (x : Str) (K : PySem.W.Frag) : Bool := (He.Fa.glo x).ok K
def freeB (x : Str) (K : PySem.W.Frag) : Bool := (He.Fa.free x).ok K
end Pb

/-! ### data that can be shown: of small numbers and texts, few things -/
namespace Pb
open PySem PySem.Spec PyProof.Rows L2
structure Sm (n k : Nat) (d : PyData) : Prop where
  sh : d.showable = true
  ls : d.leavesShort 13 = true
  nd : d.hasDict = false
  dp : d.depth ≤ k
  bk : d.bulk ≤ n
structure SmA (n k : Nat) (ds : List PyData) : Prop where
  sh : PyData.showableAll ds = true
  ls : PyData.leavesShortAll 13 ds = true
  nd : PyData.hasDictAll ds = false
  dp : PyData.depthAll ds ≤ k
  bk : PyData.bulkAll ds ≤ n
theorem Sm.fits {n k : Nat} {d : PyData} (h : Sm n k d) (hn : n ≤ 1048576) : d.shown.length ≤ sizeLine := PyData.shown_fits_bulk (B := 13) (by decide) (by decide) h.ls (Nat.le_trans h.bk hn)
theorem Sm.int {i : Int} (h : i.natAbs < 10 ^ 12) : Sm 0 0 (.int i) where
  sh := decide_eq_true (by
    by_cases e : i.natAbs = 0
    · rw [e]
      decide
    · have z : i.natAbs < 2 ^ 1920 := Nat.lt_trans h (by decide)
      exact (Nat.log2_lt e).mpr z)
  ls := decide_eq_true (PyData.shown_int_le h)
  nd := rfl
  dp := Nat.le_refl _
  bk := Nat.le_refl _
theorem SmA.nil : SmA 0 0 [] := ⟨rfl, rfl, rfl, Nat.le_refl _, Nat.le_refl _⟩
theorem SmA.cons {n m k j : Nat} {d : PyData} {ds : List PyData} (h : Sm n k d) (t : SmA m j ds) : SmA (n + 1 + m) (max k j) (d :: ds) where
  sh := by
    show (d.showable && PyData.showableAll ds) = true
    rw [h.sh, t.sh]
    rfl
  ls := by
    show (d.leavesShort 13 && PyData.leavesShortAll 13 ds) = true
    rw [h.ls, t.ls]
    rfl
  nd := by
    show (d.hasDict || PyData.hasDictAll ds) = false
    rw [h.nd, t.nd]
    rfl
  dp := by
    show max d.depth (PyData.depthAll ds) ≤ max k j
    have := h.dp
    have := t.dp
    omega
  bk := by
    show d.bulk + 1 + PyData.bulkAll ds ≤ n + 1 + m
    have := h.bk
    have := t.bk
    omega
theorem Sm.tup {n k : Nat} {ds : List PyData} (h : SmA n k ds) : Sm n (k + 1) (.tuple ds) := ⟨h.sh, h.ls, h.nd, Nat.succ_le_succ h.dp, h.bk⟩
theorem Sm.lst {n k : Nat} {ds : List PyData} (h : SmA n k ds) : Sm n (k + 1) (.list ds) := ⟨h.sh, h.ls, h.nd, Nat.succ_le_succ h.dp, h.bk⟩
theorem Sm.str {x : Str} {n : Nat} (h : (x.cps.toList.all fun c => decide (c < 16 ^ 8)) = true) (hn : x.cps.size ≤ n) : Sm n 0 (.str x) := ⟨rfl, h, rfl, Nat.le_refl _, hn⟩
end Pb

namespace Pb
open PySem PySem.Spec PyProof.Rows L2
/-- for i, x in enumerate(xs), by a word between the turns -/
theorem for_enumL {K : PySem.W.Frag} {a : Addr} {xs : List V} {g : TG} {tb : TS} {D : Ends} {σ : L2.St} {H : Hp} (Pv : Nat → L2.St → Hp → Prop) (start : Pv 0 σ H) (stays : ∀ i σ H, i ≤ xs.length → Pv i σ H → SqL K H a xs)
    (turn : ∀ i x T σ H, xs[i]? = some x → H T = none → Pv i σ H → g (.ref T) σ (upd H T (.tup [.int (i : Nat), x])) fun σ2 H2 => tb { D with nx := Pv (i + 1), ct := Pv (i + 1), bk := D.nx } σ2 H2) (behind : ∀ σ H, Pv xs.length σ H → D.nx σ H) :
    ∃ W : Nat → Nat → L2.St → Hp → Prop, (∃ m, W 0 m σ H) ∧ ∀ i m σ H, W i m σ H → ((Ite K a).stop i H ∧ D.nx σ H) ∨ ((Ite K a).go i H ∧ ∃ N : L2.St → Hp → Prop, (∀ σ' H', N σ' H' → ∃ m', m' < m ∧ W (i + 1) m' σ' H') ∧
      ∀ x H', (Ite K a).yld i H x H' → g x σ H' fun σ2 H2 => tb { D with nx := N, ct := N, bk := D.nx } σ2 H2) := by
  refine ⟨fun i m σ H => m = xs.length - i ∧ i ≤ xs.length ∧ Pv i σ H, ⟨xs.length, by simp, Nat.zero_le _, start⟩, fun i m σ H hw => ?_⟩
  obtain ⟨em, hi, p⟩ := hw
  have hq := stays i σ H hi p
  by_cases lt : i < xs.length
  · refine .inr ⟨⟨xs, xs[i], hq, by simp [lt]⟩, Pv (i + 1), fun σ' H' p' => ⟨xs.length - (i + 1), by omega, rfl, lt, p'⟩, fun v H' y => ?_⟩
    obtain ⟨T, x, ev, nT, eH, hx⟩ := y
    subst ev eH
    exact turn i x T σ H (hx xs hq) nT p
  · have e : i = xs.length := by omega
    subst e
    exact .inl ⟨⟨xs, hq, Nat.le_refl _⟩, behind σ H p⟩
end Pb

namespace Pb
open PySem PySem.Spec PyProof.Rows L2
theorem ExI.same {H H' : Hp} {a D : Addr} {fs : Option (List (Str × V))} (h : ExI H a D fs) (s : Same H H') : ExI H' a D fs := by
  cases fs with
  | none =>
    rcases h with h | h
    · exact .inl (s _ _ h)
    · exact .inr (s _ _ h)
  | some l =>
    obtain ⟨dx, ⟨x, y⟩ | ⟨x, y⟩⟩ := h
    · exact ⟨dx, .inl ⟨s _ _ x, s _ _ y⟩⟩
    · exact ⟨dx, .inr ⟨s _ _ x, s _ _ y⟩⟩
theorem Same.seqT {K : PySem.W.Frag} {H H' : Hp} {a : Addr} {xs : List V} (e : Same H H') (h : SqT K H a xs) : SqT K H' a xs := by
  rcases h with (h | ⟨o, h⟩) | h
  · exact .inl (.inl (e _ _ h))
  · exact .inl (.inr ⟨o, e _ _ h⟩)
  · exact .inr h
mutual
theorem Dp.same {K : PySem.W.Frag} {H H' : Hp} (s : Same H H') : ∀ {v : V} {d : PyData}, Dp K H v d → Dp K H' v d
  | _, _, .non => .non
  | _, _, .bl b => .bl b
  | _, _, .int i => .int i
  | _, _, .str x => .str x
  | _, _, .lst h t => .lst (s.seq h) (DpAll.same s t)
  | _, _, .tup h t => .tup (Same.seqT s h) (DpAll.same s t)
theorem DpAll.same {K : PySem.W.Frag} {H H' : Hp} (s : Same H H') : ∀ {v : List V} {d : List PyData}, DpAll K H v d → DpAll K H' v d
  | _, _, .nil => .nil
  | _, _, .cons a b => .cons (Dp.same s a) (DpAll.same s b)
end
theorem DpAll.app {K : PySem.W.Frag} {H : Hp} : ∀ {v u : List V} {d e : List PyData}, DpAll K H v d → DpAll K H u e → DpAll K H (v ++ u) (d ++ e)
  | _, _, _, _, .nil, h => h
  | _, _, _, _, .cons a b, h => .cons a (DpAll.app b h)
theorem DpAll.len {K : PySem.W.Frag} {H : Hp} : ∀ {v : List V} {d : List PyData}, DpAll K H v d → v.length = d.length
  | _, _, .nil => rfl
  | _, _, .cons _ b => congrArg Nat.succ (DpAll.len b)
theorem nxo {H : Hp} {a : Addr} {o : HO} (na : H a = none) : Same H (upd H a o) ∧ (upd H a o) a = some o := ⟨same_upd na, upd_same⟩
theorem lk1 (n : Str) (v : V) : ([(n, v)] : List (Str × V)).lookup n = some v := by simp [List.lookup]
/-- what was tracked stays, but what is told at d -/
def But (d : Addr) (H H' : Hp) : Prop := ∀ b, b ≠ d → H' b = H b
end Pb

namespace Pb
open PySem PySem.Spec PyProof.Rows L2 TL
/-- a text of plain signs, not too long -/
structure Pl (z : Str) : Prop where
  asc : ∀ c ∈ z.cps.toList, c < 128
  sz : z.cps.size ≤ 20000
theorem Pl.small {z : Str} (h : Pl z) : z.cps.size < sizeLine := Nat.lt_of_le_of_lt h.sz (by decide)
theorem lay_str {z : Str} (h : ∀ c ∈ z.cps.toList, c < 128) : PyData.canLay0 (.str z) = true := by
  show (z.cps.all (· < 0x110000)) = true
  rw [← Array.all_toList, List.all_eq_true]
  intro c hc
  exact decide_eq_true (Nat.lt_trans (h c hc) (by decide))
theorem lay_all : ∀ (ds : List PyData), (∀ d ∈ ds, d.canLay0 = true) → PyData.canLayAll0 ds = true
  | [], _ => rfl
  | d :: ds, h => by
    show (d.canLay0 && PyData.canLayAll0 ds) = true
    rw [h d List.mem_cons_self, lay_all ds fun e he => h e (List.mem_cons_of_mem _ he)]
    rfl
theorem depth_all {k : Nat} : ∀ (ds : List PyData), (∀ d ∈ ds, d.depth ≤ k) → PyData.depthAll ds ≤ k
  | [], _ => Nat.zero_le _
  | d :: ds, h => by
    show max d.depth (PyData.depthAll ds) ≤ k
    exact Nat.max_le.mpr ⟨h d List.mem_cons_self, depth_all ds fun e he => h e (List.mem_cons_of_mem _ he)⟩
/-- a list of plain texts, as data -/
theorem shp_strs {ys : List Str} (h : ∀ y ∈ ys, ∀ c ∈ y.cps.toList, c < 128) : SeqAt.shaped (.list (ys.map .str)) = true := by
  have a : PyData.canLay0 (.list (ys.map .str)) = true := lay_all _ fun d hd => by
    obtain ⟨y, hy, e⟩ := List.mem_map.mp hd
    rw [← e]
    exact lay_str (h y hy)
  have b : (PyData.list (ys.map .str)).depth ≤ 64 := by
    show PyData.depthAll (ys.map .str) + 1 ≤ 64
    have : PyData.depthAll (ys.map .str) ≤ 0 := depth_all _ fun d hd => by
      obtain ⟨y, hy, e⟩ := List.mem_map.mp hd
      rw [← e]
      exact Nat.le_refl _
    omega
  unfold SeqAt.shaped
  rw [a, decide_eq_true b]
  rfl
theorem dp_strs {K : PySem.W.Frag} {H : Hp} {p : Addr} (ys : List Str) (e : H p = some (.lst (ys.map V.str))) : Dp K H (.ref p) (.list (ys.map .str)) := by
  refine .lst (.of e) ?_
  clear e
  induction ys with
  | nil => exact .nil
  | cons y r ih => exact .cons (.str y) ih
theorem set_get {σ : L2.St} {i : Nat} {x : Option V} (h : i < σ.length) : (σ.set i x)[i]? = some x := List.getElem?_set_self h
theorem arr_get {z : Str} {i c : Nat} (h : z.cps[i]? = some c) : z.cps.toList[i]? = some c := by rw [Array.getElem?_toList]; exact h
/-! ### things of any kind -/
inductive Kd (H : Hp) : V → String → Prop
  | non : Kd H .non "NoneType"
  | bl (b : Bool) : Kd H (.bl b) "bool"
  | int (i : Int) : Kd H (.int i) "int"
  | str (x : Str) : Kd H (.str x) "str"
  | lst {a : Addr} {xs : List V} (e : H a = some (.lst xs)) : Kd H (.ref a) "list"
  | tup {a : Addr} {xs : List V} (e : H a = some (.tup xs)) : Kd H (.ref a) "tuple"
  | dic {a : Addr} {kvs : List (Key × V)} (e : H a = some (.dK kvs)) : Kd H (.ref a) "dict"
theorem Kd.ty {K : PySem.W.Frag} {H : Hp} {x : V} {T : String} (h : Kd H x T) : TyX K H x (.type T) := by
  cases h with
  | non => exact .base .non
  | bl b => exact .base (.bl b)
  | int i => exact .base (.int i)
  | str x => exact .base (.str x)
  | lst e => exact .base (.lst e)
  | tup e => exact .base (.tup e)
  | dic e => exact .base (.dK e)
theorem Kd.same {H H' : Hp} {x : V} {T : String} (h : Kd H x T) (s : Same H H') : Kd H' x T := by
  cases h with
  | non => exact .non
  | bl b => exact .bl b
  | int i => exact .int i
  | str x => exact .str x
  | lst e => exact .lst (s _ _ e)
  | tup e => exact .tup (s _ _ e)
  | dic e => exact .dic (s _ _ e)
abbrev FnP (K : PySem.W.Frag) (x : Str) (st : Stmt) (f : Addr) (fd : FuncData) : Prop := FunD K x x (defArgs st) (defBody st) (defScope st) [] [] f fd
abbrev FnD (K : PySem.W.Frag) (x : Str) (st : Stmt) (dvs : List V) (f : Addr) (fd : FuncData) : Prop := FunD K x x (defArgs st) (defBody st) (defScope st) dvs [] f fd
/-! ### what is drawn -/
def drV (c : Addr) (n l u : Int) : List (Key × V) := [(.inr "cells", .ref c), (.inr "at", .int n), (.inr "left", .int l), (.inr "used", .int u)]
/-- a draw at d, of which at most n were drawn -/
def Dr (H : Hp) (d : Addr) (n : Nat) : Prop := ∃ (c : Addr) (a l u : Int) (cells : List Int), H d = some (.dK (drV c a l u)) ∧ H c = some (.lst (cells.map V.int)) ∧
  cells ≠ [] ∧ cells.length ≤ 100 ∧ 0 ≤ a ∧ a ≤ n ∧ 0 ≤ u ∧ u ≤ n
def spBegin (K : PySem.W.Frag) : Sp := fun vs H Q _ => ∃ (a : Addr) (ns : List Int), vs = [.ref a] ∧ SqL K H a (ns.map V.int) ∧ ns.length ≤ 63 ∧
  ∀ H' d c, H c = none → H d = none → Dr H' d 0 → (∀ b, b ≠ c → b ≠ d → H b ≠ none → H' b = H b) → Q (.ref d) H'
def spMixed : Sp := fun vs H Q _ => ∃ c k : Int, vs = [.int c, .int k] ∧ 0 ≤ k ∧ k ≤ 2 ^ 40 ∧ ∀ v : Int, Q (.int v) H
def spNext : Sp := fun vs H Q _ => ∃ (d : Addr) (m : Int) (n : Nat), vs = [.ref d, .int m] ∧ Dr H d n ∧ 0 < m ∧ m < 1073741824 ∧ n < 2 ^ 40 ∧
  ∀ (v : Int) (H' : Hp), 0 ≤ v → v < m → Dr H' d (n + 1) → But d H H' → Q (.int v) H'
theorem dr_cells (c : Addr) (a l u : Int) : valV (drV c a l u) (.inr "cells") = some (.ref c) := by rfl
theorem dr_at (c : Addr) (a l u : Int) : valV (drV c a l u) (.inr "at") = some (.int a) := by rfl
theorem dr_left (c : Addr) (a l u : Int) : valV (drV c a l u) (.inr "left") = some (.int l) := by rfl
theorem dr_used (c : Addr) (a l u : Int) : valV (drV c a l u) (.inr "used") = some (.int u) := by rfl
theorem dp_at (c : Addr) (a l u z : Int) : putK (drV c a l u) (.inr "at") (.int z) = drV c z l u := by rfl
theorem dp_left (c : Addr) (a l u z : Int) : putK (drV c a l u) (.inr "left") (.int z) = drV c a z u := by rfl
theorem dp_used (c : Addr) (a l u z : Int) : putK (drV c a l u) (.inr "used") (.int z) = drV c a l z := by rfl
theorem dr_len (c : Addr) (a l u : Int) : (drV c a l u).length < sizeLine := by
  show 4 < sizeLine
  decide

theorem Dr.same {H H' : Hp} {d : Addr} {n : Nat} (h : Dr H d n) (s : Same H H') : Dr H' d n := by
  obtain ⟨c, a, l, u, cs, h1, h2, r⟩ := h
  exact ⟨c, a, l, u, cs, s _ _ h1, s _ _ h2, r⟩
theorem Dr.at {H : Hp} {d : Addr} {n : Nat} (h : Dr H d n) : ∃ kvs, H d = some (.dK kvs) := by
  obtain ⟨c, a, l, u, cs, h1, h2, r⟩ := h
  exact ⟨_, h1⟩
/-- a list that isn't the draw stays where one draws -/
theorem But.lst {H H' : Hp} {d p : Addr} {n : Nat} {xs : List V} (b : But d H H') (h : Dr H d n) (e : H p = some (.lst xs)) : H' p = some (.lst xs) := by
  obtain ⟨kvs, ed⟩ := h.at
  rw [b p (ne_of e ed (by intro z; cases z))]
  exact e
/-- all but the draw stays -/
def Kp (d : Addr) (H H' : Hp) : Prop := ∀ b o, b ≠ d → H b = some o → H' b = some o
theorem Kp.refl {d : Addr} (H : Hp) : Kp d H H := fun _ _ _ e => e
theorem Kp.trans {d : Addr} {H H' H'' : Hp} (a : Kp d H H') (b : Kp d H' H'') : Kp d H H'' := fun c o n e => b c o n (a c o n e)
theorem But.kp {d : Addr} {H H' : Hp} (b : But d H H') : Kp d H H' := fun c o n e => by
  rw [b c n]
  exact e
theorem Same.kp {d : Addr} {H H' : Hp} (s : Same H H') : Kp d H H' := fun c o _ e => s c o e
theorem Dr.mono {H : Hp} {d : Addr} {n m : Nat} (h : Dr H d n) (l : n ≤ m) : Dr H d m := by
  obtain ⟨c, a, x, u, cs, h1, h2, h3, h4, h5, h6, h7, h8⟩ := h
  exact ⟨c, a, x, u, cs, h1, h2, h3, h4, h5, by omega, h7, by omega⟩
theorem Kp.lst {H H' : Hp} {d p : Addr} {n : Nat} {xs : List V} (b : Kp d H H') (h : Dr H d n) (e : H p = some (.lst xs)) : H' p = some (.lst xs) := by
  obtain ⟨kvs, ed⟩ := h.at
  exact b p _ (ne_of e ed (by intro z; cases z)) e
theorem Kp.tup {H H' : Hp} {d p : Addr} {n : Nat} {xs : List V} (b : Kp d H H') (h : Dr H d n) (e : H p = some (.tup xs)) : H' p = some (.tup xs) := by
  obtain ⟨kvs, ed⟩ := h.at
  exact b p _ (ne_of e ed (by intro z; cases z)) e
/-- the sign of z at a drawn place -/
theorem at_sign {z : Str} {v : Int} (h0 : 0 ≤ v) (h1 : v < z.length) : ∃ c, c ∈ z.cps.toList ∧ atI z.cps.toList v = some c := by
  obtain ⟨j, rfl⟩ : ∃ j : Nat, v = (j : Int) := ⟨_, (Int.toNat_of_nonneg h0).symm⟩
  have hl : z.cps.toList.length = z.length := Array.length_toList
  have hj : j < z.cps.toList.length := by omega
  exact ⟨z.cps.toList[j], List.getElem_mem hj, atI_nat (List.getElem?_eq_getElem hj)⟩
/-- what stands in a list at a drawn place -/
theorem at_list {xs : List V} {v : Int} (h0 : 0 ≤ v) (h1 : v < xs.length) : ∃ x, x ∈ xs ∧ atI xs v = some x := by
  obtain ⟨j, rfl⟩ : ∃ j : Nat, v = (j : Int) := ⟨_, (Int.toNat_of_nonneg h0).symm⟩
  have hj : j < xs.length := by omega
  exact ⟨xs[j], List.getElem_mem hj, atI_nat (List.getElem?_eq_getElem hj)⟩
theorem none_of {H H' : Hp} {a : Addr} (s : Same H H') (h : H' a = none) : H a = none := by
  cases e : H a with
  | none => rfl
  | some o =>
    rw [s _ _ e] at h
    cases h
theorem ne_none {H : Hp} {a b : Addr} {o : HO} (h : H a = some o) (n : H b = none) : a ≠ b := fun e => by
  rw [e, n] at h
  cases h
theorem asg_go {te : TE} {g : TG} {tS : TS} {D : Ends} {σ : L2.St} {H : Hp} (h : te σ H fun v H1 => g v σ H1 fun σ2 H2 => tS D σ2 H2) : tSeq (tAsg te g) tS D σ H := h
theorem len20k {n : Nat} (h : n ≤ 30000) : n < sizeLine := Nat.lt_of_le_of_lt h (by decide)
def sc0 : Scope := { kind := .function, names := [], isGenerator := false, isCoroutine := false, more := [] }
theorem blkOk_any {N : List Str} {sc scope : Scope} {own : List (Str × Nat)} (h : blkC N sc0 scope own = true) : BlkOk N sc scope own := by
  have b := blkOk_by h
  exact ⟨b.kind, b.uniq, b.ix, fun y hy e => (by rcases b.free y hy e with z | z <;> exact nomatch z), b.own⟩
def ofL (l : List Nat) : Str := ⟨l.toArray⟩
theorem ofL_tl (x : Str) : ofL (tl x) = x := by
  cases x with
  | mk a => rfl
theorem tl_ofL (l : List Nat) : tl (ofL l) = l := rfl
theorem Dr.updL {H : Hp} {d D : Addr} {n : Nat} {xs : List V} {o : HO} (h : Dr H d n) (e : H D = some (.lst xs)) (hx : ∀ x ∈ xs, ∀ i, x ≠ .int i) : Dr (upd H D o) d n := by
  obtain ⟨cc, a1, l1, u1, cells, g1, g2, g3, g4⟩ := h
  have dD : d ≠ D := fun z => by
    rw [z, e] at g1
    cases g1
  have cD : cc ≠ D := fun z => by
    rw [z, e] at g2
    have g5 : xs = cells.map V.int := HO.lst.inj (Option.some.inj g2)
    cases cells with
    | nil => exact g3 rfl
    | cons c r => exact hx (.int c) (by rw [g5]; simp) c rfl
  exact ⟨cc, a1, l1, u1, cells, by rw [upd_ne dD]; exact g1, by rw [upd_ne cD]; exact g2, g3, g4⟩
theorem strs_nint {ys : List Str} : ∀ x ∈ ys.map V.str, ∀ i, x ≠ .int i := fun x hx i e => by
  obtain ⟨y, _, ey⟩ := List.mem_map.mp hx
  rw [e] at ey
  cases ey
theorem refs_nint {ys : List Addr} : ∀ x ∈ ys.map V.ref, ∀ i, x ≠ .int i := fun x hx i e => by
  obtain ⟨y, _, ey⟩ := List.mem_map.mp hx
  rw [e] at ey
  cases ey
theorem tC_go {v : V} {σ : L2.St} {H : Hp} {Q : VK} (h : Q v H) : tC v σ H Q := h
theorem gName_go {i : Nat} {v : V} {σ : L2.St} {H : Hp} {k : L2.St → Hp → Prop} (h : k (σ.set i (some v)) H) : gName i v σ H k := h
def sg (a : Nat) : Str := ⟨#[a]⟩
/-- a comprehension over a range, of drawn signs -/
theorem lc_dr {te : TE} {i c d : Nat} {n : Nat} {σ : L2.St} {H1 : Hp} {Q : VK} (hi : i < σ.length) (hc : c ≤ 1000) (dr : Dr H1 d n)
    (step : ∀ (k : Nat) (H' : Hp) (Q' : VK), k < c → Dr H' d (n + k) → Kp d H1 H' → (∀ a H'', a < 128 → Dr H'' d (n + k + 1) → Kp d H' H'' → Q' (.str (sg a)) H'') → te ((wipe σ [i]).set i (some (.int (0 + (k : Nat))))) H' Q')
    (q : ∀ (D : Addr) (H' : Hp) (cs : List Nat), H1 D = none → cs.length = c → (∀ a ∈ cs, a < 128) → Dr H' d (n + c) → Kp d H1 H' → H' D = some (.lst ((cs.map sg).map V.str)) → Q (.ref D) H') :
    ∀ D, H1 D = none → ∃ W : Nat → Nat → Hp → Prop, (∃ m, W 0 m (upd H1 D (.lst []))) ∧ ∀ j m H, W j m H →
      ((Itr 0 c).stop j H ∧ Q (.ref D) H) ∨ ((Itr 0 c).go j H ∧ ∃ Nx : Hp → Prop, (∀ H', Nx H' → ∃ m', m' < m ∧ W (j + 1) m' H') ∧ ∀ x H', (Itr 0 c).yld j H x H' → gName i x (wipe σ [i]) H' fun σ2 H2 => wipe σ2 [i] = wipe σ [i] ∧ tYes σ2 H2 fun b H3 =>
        if b = true then te σ2 H3 fun y H4 => ∃ acc, H4 D = some (.lst acc) ∧ acc.length < sizeLine ∧ Nx (upd H4 D (.lst (acc ++ [y]))) else Nx H3) := by
  intro D nD
  refine lc_it walk_range (fun m H' => ∃ cs : List Nat, cs.length = m ∧ (∀ a ∈ cs, a < 128) ∧ Dr H' d (n + m) ∧ Kp d H1 H' ∧ H' D = some (.lst ((cs.map sg).map V.str))) ⟨[], rfl, (fun _ h => nomatch h), dr.same (same_upd nD), Same.kp (same_upd nD), upd_same⟩ (fun _ _ _ _ => trivial) (fun m x Ha Hb hm pv y => ?_) fun H' pv => ?_
  · obtain ⟨cs, hl, ha, dr', kp, eD⟩ := pv
    obtain ⟨rfl, rfl⟩ := y
    refine ⟨?_, ?_⟩
    · show (((σ.set i none).set i _).set i none) = σ.set i none
      rw [List.set_set, List.set_set]
    · dsimp only [tYes]
      rw [if_pos rfl]
      refine step m Hb _ hm dr' kp fun a Hc h128 dr2 kp2 => ⟨_, kp2.lst dr' eD, ?_, cs ++ [a], ?_, fun b hb => ?_, ?_, ?_, ?_⟩
      · rw [List.length_map, List.length_map, hl]
        exact len20k (by omega)
      · rw [List.length_append, hl]
        rfl
      · rcases List.mem_append.mp hb with h | h
        · exact ha b h
        · rw [List.mem_singleton] at h
          subst h
          exact h128
      · exact dr2.updL (kp2.lst dr' eD) strs_nint
      · exact fun b o nb e => by
          rw [upd_ne (ne_none e nD)]
          exact kp2 b o nb (kp b o nb e)
      · rw [upd_same, List.map_append, List.map_append]
        rfl
  · obtain ⟨cs, hl, ha, dr', kp, eD⟩ := pv
    exact q D H' cs nD hl ha dr' kp eD
theorem lc_drR {ta : TA} {te : TE} {i d : Nat} {n e : Nat} {CC : Nat → Prop} {σ : L2.St} {H : Hp} {Q : VK} (hta : ∀ R : List V → Hp → Prop, (∀ (c : Nat) (H1 : Hp), c ≤ 1000 → CC c → Dr H1 d (n + e) → Kp d H H1 → R [.int (c : Nat)] H1) → ta σ H R) (hi : i < σ.length)
    (step : ∀ (k : Nat) (H1 H' : Hp) (Q' : VK), k < 1000 → Kp d H H1 → Dr H1 d (n + e) → Dr H' d (n + e + k) → Kp d H1 H' → (∀ a H'', a < 128 → Dr H'' d (n + e + k + 1) → Kp d H' H'' → Q' (.str (sg a)) H'') → te ((wipe σ [i]).set i (some (.int (0 + (k : Nat))))) H' Q')
    (q : ∀ (D : Addr) (H' : Hp) (cs : List Nat), H D = none ∨ D = d → D ≠ d → CC cs.length → cs.length ≤ 1000 → (∀ a ∈ cs, a < 128) → Dr H' d (n + e + cs.length) → Kp d H H' → H' D = some (.lst ((cs.map sg).map V.str)) → Q (.ref D) H') : tLc (iRng1 ta) (gName i) tYes te [i] σ H Q := by
  refine hta _ fun c H1 hc cc dr kp => ⟨c, rfl, by omega, by omega, ?_⟩
  rw [Int.toNat_natCast]
  refine lc_dr (te := te) (Q := Q) hi hc dr (fun k H' Q' hk dr' kp' q' => step k H1 H' Q' (by omega) kp dr dr' kp' q') fun D H' cs nD hl ha dr' kp' eD => ?_
  have dD : D ≠ d := by
    obtain ⟨kvs, ed⟩ := dr.at
    exact (ne_none ed nD).symm
  subst hl
  refine q D H' cs ?_ dD cc hc ha dr' (kp.trans kp') eD
  cases eH : H D with
  | none => exact .inl rfl
  | some o => exact absurd (kp D o dD eH) (by rw [nD]; simp)
theorem join_signs (cs : List Nat) : tl (Txt.join "" (cs.map sg)) = cs := by
  rw [join_eq, tl_join]
  have e : ∀ l : List (List Nat), joinL (tl ("" : Str)) l = l.flatten := by
    intro l
    induction l with
    | nil => rfl
    | cons p r ih =>
      cases r with
      | nil =>
        show p = _
        simp
      | cons q r =>
        show p ++ ([] ++ joinL (tl ("" : Str)) (q :: r)) = _
        rw [ih]
        rfl
  rw [e, List.map_map]
  induction cs with
  | nil => rfl
  | cons a r ih =>
    rw [List.map_cons, List.flatten_cons, ih]
    rfl
/-- a text of plain signs, of at most k signs -/
def Sh (k : Nat) (z : Str) : Prop := (∀ c ∈ tl z, c < 128) ∧ (tl z).length ≤ k
theorem Sh.pl {k : Nat} {z : Str} (h : Sh k z) (hk : k ≤ 20000) : Pl z := ⟨h.1, by
  have : z.cps.size = (tl z).length := Array.length_toList.symm
  rw [this]
  exact Nat.le_trans h.2 hk⟩
theorem Sh.len {k : Nat} {z : Str} (h : Sh k z) : z.length ≤ k := by
  rw [len_tl z]
  exact h.2
theorem join_sum (cs : List Nat) : ((cs.map sg).map (·.length)).sum + (cs.map sg).length * ("" : Str).length = cs.length := by
  rw [show ("" : Str).length = 0 by decide +kernel, Nat.mul_zero, Nat.add_zero, List.map_map]
  induction cs with
  | nil => rfl
  | cons a r ih =>
    rw [List.map_cons, List.sum_cons, ih, List.length_cons]
    show 1 + _ = _
    omega
theorem Sh.mono {j k : Nat} {z : Str} (h : Sh j z) (l : j ≤ k) : Sh k z := ⟨h.1, Nat.le_trans h.2 l⟩
theorem Sh.app {j k : Nat} {y z : Str} (a : Sh j y) (b : Sh k z) : Sh (j + k) (y ++ z) := by
  have e : tl (y ++ z) = tl y ++ tl z := tl_append y z
  refine ⟨fun c hc => ?_, ?_⟩
  · rw [e] at hc
    rcases List.mem_append.mp hc with h | h
    · exact a.1 c h
    · exact b.1 c h
  · rw [e, List.length_append]
    have := a.2
    have := b.2
    omega
theorem Sh.cut {k : Nat} {z : Str} (a : Sh k z) (lo hi : Option Int) : Sh k (cutS z lo hi) := by
  have e : tl (cutS z lo hi) = ((z.cps.toList.drop (HT.sIx z.length 0 lo)).take (HT.sIx z.length z.length hi - HT.sIx z.length 0 lo)) := rfl
  refine ⟨fun c hc => ?_, ?_⟩
  · rw [e] at hc
    exact a.1 c (List.mem_of_mem_drop (List.mem_of_mem_take hc))
  · rw [e, List.length_take, List.length_drop]
    have : z.cps.toList.length ≤ k := a.2
    omega
theorem sh_sg {c : Nat} (h : c < 128) : Sh 1 (sg c) := ⟨fun a ha => by
  have : a = c := by simpa [sg] using ha
  rw [this]
  exact h, Nat.le_refl _⟩
theorem sh_join {cs : List Nat} (h : ∀ a ∈ cs, a < 128) : Sh cs.length (Txt.join "" (cs.map sg)) := by
  refine ⟨?_, ?_⟩
  · rw [join_signs]
    exact h
  · rw [join_signs]
    exact Nat.le_refl _
end Pb

namespace Pb
open PySem PySem.Spec PyProof.Rows L2
/-! ### min, max of two texts -/
def txAt (x y : Str) : Nat → Str := fun i => if i = 0 then x else y
section
variable {prog : Program} {w : World} {A : Around} {E : Value → Shared → Prop} {s : Shared} {x y : Str} {t u : Tok}
theorem tx_val {i : Nat} {v : Value} (h : #[Value.str x t, Value.str y u][i]? = some v) : ∃ k, v = .str (txAt x y i) k := by
  match i, h with
  | 0, h => exact ⟨t, by simpa [txAt] using h.symm⟩
  | 1, h => exact ⟨u, by simpa [txAt] using h.symm⟩
  | i + 2, h => simp at h
theorem cmp_txL : CmpOf prog w A .Lt (fun i v => #[Value.str x t, Value.str y u][i]? = some v) (fun i j => decide ((txAt x y i).cps.toList < (txAt x y j).cps.toList)) := fun i j vi vj s Q E hi hj h => by
  obtain ⟨_, rfl⟩ := tx_val hi
  obtain ⟨_, rfl⟩ := tx_val hj
  exact PyProof.Rows.lt_str h
theorem cmp_txG : CmpOf prog w A .Gt (fun i v => #[Value.str x t, Value.str y u][i]? = some v) (fun i j => decide ((txAt x y j).cps.toList < (txAt x y i).cps.toList)) := fun i j vi vj s Q E hi hj h => by
  obtain ⟨_, rfl⟩ := tx_val hi
  obtain ⟨_, rfl⟩ := tx_val hj
  exact PySem.P.gt_str h
theorem two_old {h' : Heap} {a b : Value} (hz : (s.heap.push { cls := .type "tuple", data := .seq #[a, b] }).objs.size = s.heap.objs.size + 1)
    (hk : ∀ c o, c ∉ [(s.heap.push { cls := .type "tuple", data := .seq #[a, b] }).objs.size] → ((s.heap.push { cls := .type "tuple", data := .seq #[a, b] }).push { cls := .type "tuple_iterator", data := .fields #[.ref s.heap.objs.size, .int 0 0] }).get? c = some o → h'.get? c = some o) :
    ∀ c o, s.heap.get? c = some o → h'.get? c = some o := fun c o e => by
  refine hk c o (fun z => ?_) (Heap.get?_push_of_some _ (Heap.get?_push_of_some _ e))
  have l := Heap.lt_size e
  rw [List.mem_singleton.mp z, hz] at l
  exact Nat.lt_irrefl _ (Nat.lt_of_succ_lt l)
theorem two_new {a b : Value} (hz : (s.heap.push { cls := .type "tuple", data := .seq #[a, b] }).objs.size = s.heap.objs.size + 1) (c : Addr) (hc : c ∈ [(s.heap.push { cls := .type "tuple", data := .seq #[a, b] }).objs.size, s.heap.objs.size]) :
    c < ((s.heap.push { cls := .type "tuple", data := .seq #[a, b] }).push { cls := .type "tuple_iterator", data := .fields #[.ref s.heap.objs.size, .int 0 0] }).objs.size := by
  rw [Heap.size_push]
  rcases List.mem_cons.mp hc with z | z
  · rw [z]
    exact Nat.lt_succ_self _
  · rw [List.mem_singleton.mp z, hz]
    exact Nat.lt_succ_of_lt (Nat.lt_succ_self _)
theorem min_two_tx {Q : Value → Shared → Prop} (hh : A.handled = none) (h : ∀ h' tk k, (∀ c o, s.heap.get? c = some o → h'.get? c = some o) → Q (.str (if y.cps.toList < x.cps.toList then y else x) k) { s with heap := h', toks := tk }) : wpAny (model prog w) A (call (.builtin "min") [.str x t, .str y u]) Q E s := by
  have isT : (s.heap.push { cls := .type "tuple", data := .seq #[.str x t, .str y u] }).IsTuple s.heap.objs.size #[.str x t, .str y u] := ⟨_, Heap.get?_push_size _ rfl, rfl, 0, rfl⟩
  have hz : (s.heap.push { cls := .type "tuple", data := .seq #[.str x t, .str y u] }).objs.size = s.heap.objs.size + 1 := Heap.size_push ..
  refine call_min_two (wpAny_pyIter_tuple isT ⟨_, [_, s.heap.objs.size], [_], _, _, _, _, rfl, Walks.tuple (A := A.in1) hh _ s.heap.objs.size (by rw [hz]; exact Nat.ne_of_lt (Nat.lt_succ_self _)) #[.str x t, .str y u], ⟨⟨_, Heap.get?_push_size _ rfl, rfl, rfl⟩, isT.push _⟩, two_new hz, by simp, cmp_txL, fun v h' tk hP hk => ?_⟩)
  obtain ⟨k, rfl⟩ := tx_val hP
  have e : txAt x y (argBest (fun i j => decide ((txAt x y i).cps.toList < (txAt x y j).cps.toList)) (#[Value.str x t, Value.str y u].size - 1)) = if y.cps.toList < x.cps.toList then y else x := by
    show txAt x y (argBest (fun i j => decide ((txAt x y i).cps.toList < (txAt x y j).cps.toList)) 1) = _
    by_cases c : y.cps.toList < x.cps.toList <;> simp [argBest, txAt, c]
  rw [e]
  exact h h' tk k (two_old hz hk)
theorem max_two_tx {Q : Value → Shared → Prop} (hh : A.handled = none) (h : ∀ h' tk k, (∀ c o, s.heap.get? c = some o → h'.get? c = some o) → Q (.str (if x.cps.toList < y.cps.toList then y else x) k) { s with heap := h', toks := tk }) : wpAny (model prog w) A (call (.builtin "max") [.str x t, .str y u]) Q E s := by
  have isT : (s.heap.push { cls := .type "tuple", data := .seq #[.str x t, .str y u] }).IsTuple s.heap.objs.size #[.str x t, .str y u] := ⟨_, Heap.get?_push_size _ rfl, rfl, 0, rfl⟩
  have hz : (s.heap.push { cls := .type "tuple", data := .seq #[.str x t, .str y u] }).objs.size = s.heap.objs.size + 1 := Heap.size_push ..
  refine call_max_two (wpAny_pyIter_tuple isT ⟨_, [_, s.heap.objs.size], [_], _, _, _, _, rfl, Walks.tuple (A := A.in1) hh _ s.heap.objs.size (by rw [hz]; exact Nat.ne_of_lt (Nat.lt_succ_self _)) #[.str x t, .str y u], ⟨⟨_, Heap.get?_push_size _ rfl, rfl, rfl⟩, isT.push _⟩, two_new hz, by simp, cmp_txG, fun v h' tk hP hk => ?_⟩)
  obtain ⟨k, rfl⟩ := tx_val hP
  have e : txAt x y (argBest (fun i j => decide ((txAt x y j).cps.toList < (txAt x y i).cps.toList)) (#[Value.str x t, Value.str y u].size - 1)) = if x.cps.toList < y.cps.toList then y else x := by
    show txAt x y (argBest (fun i j => decide ((txAt x y j).cps.toList < (txAt x y i).cps.toList)) 1) = _
    by_cases c : x.cps.toList < y.cps.toList <;> simp [argBest, txAt, c]
  rw [e]
  exact h h' tk k (two_old hz hk)
end
def minS (x y : Str) : Str := if y.cps.toList < x.cps.toList then y else x
def maxS (x y : Str) : Str := if x.cps.toList < y.cps.toList then y else x
def rMinS : List V → Hp → VK → Prop := fun xs H Q => ∃ x y, xs = [.str x, .str y] ∧ Q (.str (minS x y)) H
def rMaxS : List V → Hp → VK → Prop := fun xs H Q => ∃ x y, xs = [.str x, .str y] ∧ Q (.str (maxS x y)) H
section
variable {X : Cx}
theorem call_minS (hc : X.calm = true) : CallR X (.builtin "min") rMinS := by
  intro pins s σ H xs us Q I r h
  obtain ⟨x, y, rfl, q⟩ := h
  obtain ⟨_, _, rfl, ⟨_, rfl⟩, ⟨_, rfl⟩⟩ := vals2 r
  exact min_two_tx (I.ok.hd hc) fun h' tk k kp => ⟨.str (minS x y), H, I.kept kp, ⟨k, rfl⟩, q⟩
theorem call_maxS (hc : X.calm = true) : CallR X (.builtin "max") rMaxS := by
  intro pins s σ H xs us Q I r h
  obtain ⟨x, y, rfl, q⟩ := h
  obtain ⟨_, _, rfl, ⟨_, rfl⟩, ⟨_, rfl⟩⟩ := vals2 r
  exact max_two_tx (I.ok.hd hc) fun h' tk k kp => ⟨.str (maxS x y), H, I.kept kp, ⟨k, rfl⟩, q⟩
end
end Pb

namespace Pb
open PySem PySem.Spec PyProof.Rows L2
/-! ### enumerate(tuple) -/
abbrev tupIt (l : Addr) : Obj := { cls := .type "tuple_iterator", data := .fields #[.ref l, .int 0 0] }
abbrev enumOf (a : Addr) : Obj := { cls := .type "enumerate", data := .fields #[.none, .bool false, .ref a, rawInt 0, .none, .none] }
theorem meets_enT (l : Addr) (items : Array Value) : Meets (Builtin.«enumerate.__new__» ⟨[.type "enumerate", .ref l], []⟩) (fun _ R s => s.heap.IsTuple l items ∧ R (.ok (.ret (.ref (s.heap.push (tupIt l)).objs.size))) { s with heap := (s.heap.push (tupIt l)).push (enumOf s.heap.objs.size) }) :=
  .of_wp fun prog w A R s h => by
    obtain ⟨hp, g, d, tk, os⟩ := s
    obtain ⟨ht, h⟩ := h
    have sub := sub_enumerate
    have q : ∀ {A' : Around} {E : Value → Shared → Prop} {Q : Value → Shared → Prop}, Q (.ref hp.objs.size) ⟨hp.push (tupIt l), g, d, tk, os⟩ → wpAny (model prog w) A' (pyIter (.ref l)) Q E ⟨hp, g, d, tk, os⟩ := fun z => wpAny_pyIter_tuple (s := ⟨hp, g, d, tk, os⟩) ht z
    obtain ⟨⟨oc, od, oo, osl⟩, hol, hc, n, hd⟩ := id ht
    replace hc : oc = .type "tuple" := hc
    replace hd : oo = .seq items n := hd
    subst hc hd
    wp_walk using AutoSeq1.wpAny_loadPart' hol
    refine wpAny_stack_any fun st => wpAny_pure ?_
    split
    · rename_i c _ _ _ _ _
      cases (c == Value.type "enumerate")
      · (wp_walk using AutoSeq1.wpAny_loadPart' hol, q); exact ⟨_, rfl, h⟩
      · (wp_walk using AutoSeq1.wpAny_loadPart' hol, q); exact ⟨_, rfl, h⟩
    · (wp_walk using AutoSeq1.wpAny_loadPart' hol, q); exact ⟨_, rfl, h⟩
theorem call_enT {prog : Program} {w : World} {A : Around} {E : Value → Shared → Prop} {s : Shared} {l : Addr} {items : Array Value} {Q : Value → Shared → Prop} (ht : s.heap.IsTuple l items)
    (h : ∀ h', IsEnum h' (s.heap.objs.size + 1) s.heap.objs.size 0 .none → h'.IsTupleIter s.heap.objs.size l 0 → (∀ b o, s.heap.get? b = some o → h'.get? b = some o) → Q (.ref (s.heap.objs.size + 1)) { s with heap := h' }) : wpAny (model prog w) A (call (.type "enumerate") [.ref l]) Q E s := by
  refine callType_new F.called_enumerate (by decide) (F.typeCall_enumerate_1 _) (F.newCall_enumerate_1 _) (fun ob => F.args_object_init_2 ob _) F.entry_enumerate_new (meets_enT l items) ⟨ht, ?_⟩
  have z : (s.heap.push (tupIt l)).objs.size = s.heap.objs.size + 1 := Heap.size_push ..
  show _ ∧ _
  rw [z]
  have he : IsEnum ((s.heap.push (tupIt l)).push (enumOf s.heap.objs.size)) (s.heap.objs.size + 1) s.heap.objs.size 0 .none := by
    have q := Heap.get?_push_size (s.heap.push (tupIt l)) (o := enumOf s.heap.objs.size) rfl
    rw [z] at q
    exact q
  exact ⟨⟨_, he, rfl⟩, h _ he ⟨_, Heap.get?_push_of_some _ (Heap.get?_push_size _ rfl), rfl, rfl⟩ fun b o e => Heap.get?_push_of_some _ (Heap.get?_push_of_some _ e)⟩
/-- the tuple at a, each item in a new pair -/
def IteT (K : PySem.W.Frag) (a : Addr) : It :=
  ⟨fun i H => ∃ (xs : List V) (x : V), SqT K H a xs ∧ xs[i]? = some x, fun i H v H' => ∃ T x, v = .ref T ∧ H T = none ∧ H' = upd H T (.tup [.int (i : Nat), x]) ∧ ∀ xs, SqT K H a xs → xs[i]? = some x, fun i H => ∃ xs : List V, SqT K H a xs ∧ xs.length ≤ i⟩
theorem turn_enT {P : Program} {w : World} {K : PySem.W.Frag} {elts : List Expr} {kk : Nat} {tpos : Pos} (a e it : Addr) (ea : e ≠ a) (ia : a ≠ it) (ei : e ≠ it) :
    Turn P w K (.Tuple elts kk tpos) (IteT K a) [e, it] e (fun i h => (∃ old, IsEnum h e it ((i : Nat) : Int) old) ∧ h.IsTupleIter it a i) where
  mem := by simp
  obj := fun i h st b hb => by
    obtain ⟨⟨old, he⟩, ⟨o, ho, hc, hd⟩⟩ := st
    rcases List.mem_cons.mp hb with z | z
    · rw [z]
      exact ⟨_, he, fun v q => nomatch q⟩
    · rw [List.mem_singleton.mp z]
      exact ⟨o, ho, fun v q => by rw [hd] at q; cases q⟩
  keep := fun i h h' st k => by
    obtain ⟨⟨old, he⟩, hi⟩ := st
    exact ⟨⟨old, k e (by simp) _ he⟩, hi.at fun o q => k it (by simp) o q⟩
  item := by
    intro X hP hw hK hc i pins s σ H E I hf st hg
    subst hP hw hK
    obtain ⟨⟨old, he⟩, hit⟩ := st
    obtain ⟨xs, x, hq, hx⟩ := hg
    obtain ⟨its, rv, p, hz⟩ := I.tuple hq
    obtain ⟨u, hu, ru⟩ := rv.get hx
    have le : e < s.heap.objs.size := Heap.lt_size he
    have li : it < s.heap.objs.size := by
      obtain ⟨_, q, _⟩ := hit
      exact Heap.lt_size q
    have lt : i < its.toArray.size := by
      have := (List.getElem?_eq_some_iff.mp hu).1
      simpa using this
    have hh : X.A.in1.handled = none := by simpa using I.ok.hd hc
    refine wpAny_pyNext_enum_itemD (Draws.tuple (prog := X.prog) (w := X.w) hh it a ia its.toArray) he ⟨hit, p⟩ lt ei (by simp; exact ⟨ei, ea⟩) fun y h' tk hy ho hst hT hsz hk => ?_
    have yu : y = u := by
      have h1 : its[i]? = some y := by simpa using hy
      rw [hu] at h1
      exact (Option.some.inj h1).symm
    subst yu
    refine ⟨_, rfl, wpAny_letOwnedTupleGo_enum (s := { s with heap := h', toks := tk + 1 }) ho fun h2 he2 sb => ?_⟩
    have hT2 : h2.get? s.heap.objs.size = some { cls := .type "tuple", data := .seq #[.int i tk, y] } := (sb.2 _ (Nat.ne_of_gt le)).trans hT
    have new : ObjOk X.prog X.w (upd H s.heap.objs.size (.tup [.int (i : Nat), x])) h2 s.heap.objs.size (.tup [.int (i : Nat), x]) := ⟨by show 2 ≤ sizeLine; decide, [.int i tk, y], .cons ⟨_, rfl⟩ (.cons ru .nil), ⟨_, hT2, rfl, _, rfl⟩⟩
    have out : ∀ {b : Addr}, b ∉ [e, it] → b ≠ e ∧ b ≠ it := fun {b} hb => ⟨fun z => hb (by simp [z]), fun z => hb (by simp [z])⟩
    have I1 : Inv X pins σ (upd H s.heap.objs.size (.tup [.int (i : Nat), x])) { s with heap := h2, toks := tk + 1 } := I.turnedNew (ch := [e, it]) (fun b ob hb q => (sb.2 b (out hb).1).trans (hk b ob (out hb).1 (out hb).2 q)) hf (Nat.le_refl _) new
    refine ⟨.ref s.heap.objs.size, _, I1, rfl, ⟨_, x, rfl, I.hok.fresh (Nat.le_refl _), rfl, fun ys hy => by rw [I.tuple_inj hy hq]; exact hx⟩, ⟨⟨y, ?_⟩, hst.1.at fun o q => (sb.2 it (Ne.symm ei)).trans q⟩, fun b hb => ?_⟩
    · have e1 : ((i + 1 : Nat) : Int) = (i : Int) + 1 := by omega
      rw [e1]
      exact he2
    · have lb : b < s.heap.objs.size := by
        rcases List.mem_cons.mp hb with z | z
        · rw [z]
          exact le
        · rw [List.mem_singleton.mp z]
          exact li
      rw [upd_ne (Nat.ne_of_lt lb)]
      exact (hf b hb).1
  done := by
    intro X hP hw hK hc i pins s σ H E I hf st hg
    subst hP hw hK
    obtain ⟨⟨old, he⟩, hit⟩ := st
    obtain ⟨xs, hq, hx⟩ := hg
    obtain ⟨its, rv, p, hz⟩ := I.tuple hq
    obtain ⟨f0, f1, f2, f3, f4, f5⟩ := hf it (by simp)
    have hl := rv.length
    have hh : X.A.in1.handled = none := by simpa using I.ok.hd hc
    have hT : s.TypeIs (.ref e) "enumerate" := ⟨_, he, rfl⟩
    unfold pyNext
    refine wpAny_bind (wpAny_attempt (wpAny_callSpecial?_slot (name := Str.ofString "__next__") hT F.slot_enumerate_next (wpAny_call_entry F.slot_enumerate_next hT F.entry_enumerate_next ?_ (F.args_enumerate_next_1 _))))
    refine wpAny_bind (m := field (.ref e) 2) (wpAny_field he rfl (x := .ref it) rfl (wpAny_bind (wpAny_nextOf_tuple_end (items := its.toArray) hh hit p (by simp; omega) fun h' y hy hy2 => ?_)))
    obtain ⟨o, ho, hc'⟩ := hy2
    refine wpAny_bind (wpAny_isInstance (T := "StopIteration") (b := true) ⟨o, ho, hc'⟩ isSubtype_stop (wpAny_pure ⟨rfl, ?_⟩))
    exact I.turned (t' := s.toks) (fun b o hb q => hy b o hb q) f0 f1 f3 f4 f5
  self := fun A i s Q E st h => by
    obtain ⟨⟨_, he⟩, _⟩ := st
    exact wpAny_pyIter_enum he h
def iEnumT (K : PySem.W.Frag) (ta : TA) : TI := fun σ H R => ta σ H fun vs H1 => ∃ a xs, vs = [.ref a] ∧ SqT K H1 a xs ∧ R (IteT K a) H1
theorem pi_enT {X : Cx} {e : Expr} {ta : TA} {p pos tpos : Pos} {elts : List Expr} {kk : Nat} (hg : Gl X "enumerate") (hm : X.mg "enumerate" = none) (ha : PA X [e] ta) (hs : starEach [e] X.env = [(false, eval e X.env)] := by rfl) :
    PI X (.Tuple elts kk tpos) (.Call (.Name "enumerate" p) [e] [] pos) (iEnumT X.K ta) := by
  refine ⟨fun pins s σ H R I h => ?_⟩
  refine Call_ (ld_blt I hg hm boot_enumerate (PyProof.Rows.callWith_type1 (thn (ha.run pos pins s σ H _ I h) fun us s1 z => ?_) hs rfl))
  obtain ⟨vs, H1, I1, r1, a, xs, rfl, hq, q⟩ := z
  cases r1 with
  | cons r rr =>
    cases rr
    cases r
    obtain ⟨its, rv, p', hz⟩ := I1.tuple hq
    have la : a < s1.heap.objs.size := by
      obtain ⟨_, ho, _⟩ := id p'
      exact Heap.lt_size ho
    refine call_enT p' fun h' he hit hk => wpAny_pyIter_enum he ?_
    have I2 : Inv X pins σ H1 { s1 with heap := h' } := I1.kept (t' := s1.toks) hk
    refine ⟨s1.heap.objs.size + 1, [s1.heap.objs.size + 1, s1.heap.objs.size], _, _, H1, rfl, I2, turn_enT a (s1.heap.objs.size + 1) s1.heap.objs.size (Nat.ne_of_gt (Nat.lt_succ_of_lt la)) (Nat.ne_of_lt la) (Nat.succ_ne_self _), ⟨⟨.none, he⟩, hit⟩, fun b hb => ?_, q⟩
    have le : s1.heap.objs.size ≤ b := by
      rcases List.mem_cons.mp hb with z | z
      · rw [z]
        exact Nat.le_add_right _ _
      · rw [List.mem_singleton.mp z]
        exact Nat.le_refl _
    exact I1.fpOk le (I1.hok.fresh le)
theorem walk_enT {K : PySem.W.Frag} {a : Addr} {xs : List V} : Walk (IteT K a) xs.length (fun H => SqT K H a xs) (YPair (fun i => some (.int (i : Nat))) (fun i => xs[i]?)) := by
  refine ⟨fun i _ hi q => ⟨xs, xs[i], q, by simp [hi]⟩, fun _ q => ⟨xs, q, Nat.le_refl _⟩, fun i H v H' _ q y => ?_⟩
  obtain ⟨T, x, h1, h2, h3, h4⟩ := y
  exact ⟨T, .int (i : Nat), x, h1, h2, h3, rfl, h4 xs q⟩
end Pb

namespace Pb
open PySem PySem.Spec PyProof.Rows L2
/-! ### a set made of a list, whatever its items are, by what adding one of them does -/
abbrev newSet (w : World) : Obj := { cls := .type "set", dict := none, data := .set #[] 0 (.fresh 0 0 (!w.params.followText "set-order")) }
section
variable {P : Program} {w : World} {A : Around} {E : Value → Shared → Prop} {s : Shared}
theorem loop_any {I S : Addr} {fp wr : List Addr} {G : Array GenState → Array GenState → Prop} {n : Nat} {Pv : Nat → Value → Prop} {St : Nat → Shared → Prop} {R : Result → Shared → Prop} (W : WalksS P w A.in1 I fp wr G n Pv St) (out : S ∉ fp) (J : Nat → Heap → Prop)
    (stay : ∀ i h h', J i h → (∀ b o, b ∉ wr → h.get? b = some o → h'.get? b = some o) → J i h')
    (add : ∀ (i : Nat) (v : Value) (s : Shared) (Q : Bool → Shared → Prop) (E : Value → Shared → Prop), i < n → Pv i v → J i s.heap → (∀ b h' tk, Heap.SameBut S s.heap h' → s.toks ≤ tk → J (i + 1) h' → Q b { s with heap := h', toks := tk }) → wpAny (model P w) A.in1 (setAdd S v) Q E s) :
    ∀ (k i : Nat) (s : Shared), n - i = k → i ≤ n → St i s → J i s.heap → (∀ s', Moved (S :: wr) G s s' → J n s'.heap → R (.ok (.ret .none)) s') → codeAny (model P w) A (.builtin "set.update.loop" ⟨[.ref S, .ref I], []⟩) R s := by
  have outW : S ∉ wr := fun z => out (W.sub _ z)
  have more : ∀ b ∈ wr, b ∈ S :: wr := fun b z => List.mem_cons_of_mem _ z
  intro k
  induction k with
  | zero =>
    intro i s ek hi st j fin
    obtain rfl : i = n := by omega
    refine codeAny_builtin PyProof.Rows.F.entry_set_update_loop ?_
    rw [Around.under_plainId PyProof.Rows.F.plain_set_update_loop _]
    refine wpAny_bind (m := pyNext (.ref I)) (W.done s _ _ st fun s' mv => ?_)
    exact wpAny_pure (fin s' (mv.mono more) (stay _ _ _ j fun b o nb e => mv.heap b o nb e))
  | succ k ih =>
    intro i s ek hi st j fin
    have lt : i < n := by omega
    refine codeAny_builtin PyProof.Rows.F.entry_set_update_loop ?_
    rw [Around.under_plainId PyProof.Rows.F.plain_set_update_loop _]
    refine wpAny_bind (m := pyNext (.ref I)) (W.item i s _ _ lt st fun v s' pv st' mv => ?_)
    have j' := stay _ _ _ j fun b o nb e => mv.heap b o nb e
    refine wpAny_bind (m := holding [v] (setAdd S v)) (wpAny_holding (add i v s' _ _ lt pv j' fun b h' tk sb le j2 => ?_))
    refine wpAny_pure ⟨plainId_quiet PyProof.Rows.F.plain_set_update_loop _, ih (i + 1) _ (by omega) lt (W.frame _ s' _ _ st' le fun b hb o e => ?_) j2 fun s2 mv2 j3 => fin s2 (Moved.trans W.gtrans ((mv.mono more).then_heap le fun b o hb e => ?_) mv2) j3⟩
    · exact (sb.2 b fun z : b = S => out (z ▸ hb)).trans e
    · exact (sb.2 b fun z : b = S => hb (z ▸ List.mem_cons_self)).trans e
theorem call_setL {l : Addr} {items : Array Value} {Q : Value → Shared → Prop} (J : Nat → Heap → Prop) (hh : A.handled = none) (hl : s.heap.IsList l items)
    (stay : ∀ i h h', J i h → (∀ b o, b ≤ s.heap.objs.size → h.get? b = some o → h'.get? b = some o) → J i h')
    (start : ∀ h, h.get? s.heap.objs.size = some (newSet w) → (∀ b o, s.heap.get? b = some o → h.get? b = some o) → J 0 h)
    (add : ∀ (A' : Around) (i : Nat) (v : Value) (s' : Shared) (Q : Bool → Shared → Prop) (E : Value → Shared → Prop), A'.units ≤ A.units + 4 → items[i]? = some v → J i s'.heap → (∀ b h' tk, Heap.SameBut s.heap.objs.size s'.heap h' → s'.toks ≤ tk → J (i + 1) h' → Q b { s' with heap := h', toks := tk }) → wpAny (model P w) A' (setAdd s.heap.objs.size v) Q E s')
    (h : ∀ (h' : Heap) (tk : Nat), J items.size h' → (∀ b o, s.heap.get? b = some o → h'.get? b = some o) → Q (.ref s.heap.objs.size) { s with heap := h', toks := tk }) : wpAny (model P w) A (call (.type "set") [.ref l]) Q E s := by
  obtain ⟨c, tl, hmro⟩ := PySem.F.called_set.mro
  have made := PySem.F.called_set.made; have sub := PySem.F.called_set.sub
  refine wpAny_call (codeAny_of_tree (show wpAny _ _ (callAny (.type "set") _) _ _ _ from wpAny_pure ⟨Code.quiet_builtin _ (by decide +kernel), codeAny_builtin PySem.F.entry_type_call ?_⟩))
  rw [Around.under_plain (weight_type_call_type "set" [.ref l] []) rfl]
  have n1 := PySem.F.called_set.notType; have n2 := PySem.F.called_set.canCreate; have n3 := PySem.F.typeCall_set_1 (.ref l)
  repeat (any_goals (first | assumption | wp_step))
  refine codeAny_mono (code_set_led1 (.ref l) (E := E) (Q₁ := fun ob s₁ => ob = .ref s.heap.objs.size ∧ s₁ = { s with heap := s.heap.push (newSet w) }) ⟨rfl, rfl⟩) fun r s₁ hr => ?_
  cases r with
  | error e => exact hr
  | ok fl =>
    cases fl with
    | next => exact hr.elim
    | brk => exact hr.elim
    | cont => exact hr.elim
    | ret ob =>
      obtain ⟨rfl, rfl⟩ := hr
      have at_ : (s.heap.push (newSet w)).get? s.heap.objs.size = some (newSet w) := Heap.get?_push_size _ rfl
      have ty : Shared.TypeIs { s with heap := s.heap.push (newSet w) } (.ref s.heap.objs.size) "set" := ⟨_, at_, rfl⟩
      have i1 := PySem.F.called_set.init.lookup; have i2 := PySem.F.called_set.init.bind (.ref s.heap.objs.size)
      repeat (any_goals (first | assumption | wp_step))
      refine codeAny_mono (codeAny_call_builtin (R := wants (fun r s₂ => r = .none ∧ ∃ h' tk, s₂ = { s with heap := h', toks := tk } ∧ J items.size h' ∧ (∀ b o, s.heap.get? b = some o → h'.get? b = some o)) E) PySem.F.called_set.init.plain PySem.F.entry_set_init (check_set_init_1 ty ?_)) fun r₂ s₂ hr₂ => ?_
      · obtain ⟨⟨oc, od, oo, os⟩, hol, hcl, nl, hdl⟩ := hl
        dsimp only at hcl hdl
        subst hcl hdl
        have hol' : (s.heap.push (newSet w)).get? l = some { cls := .type "list", dict := od, data := .seq items nl, slots := os } := Heap.get?_push_of_some _ hol
        have t1 := PySem.F.sub_list_set; have t2 := PySem.F.sub_list_frozenset
        have t3 : (Value.type "list" == Value.type "dict") = false := by decide
        have isl : (s.heap.push (newSet w)).IsList l items := ⟨_, hol', rfl, nl, rfl⟩
        unfold Builtin.«set.__init__» noKeywords Builtin.Frozenset.updateFrom
        generalize ep : pyIter = PI
        wp_walk
        subst ep
        refine wpAny_pyIter_list isl (wpAny_bind (wpAny_runValue ?_))
        have ltl : l < s.heap.objs.size := Heap.lt_size hol
        have hz : (s.heap.push (newSet w)).objs.size = s.heap.objs.size + 1 := Heap.size_push ..
        have h3 : A.in1.in1.in1.handled = none := by simp [hh]
        have neI : l ≠ (s.heap.push (newSet w)).objs.size := by rw [hz]; exact Nat.ne_of_lt (Nat.lt_succ_of_lt ltl)
        have outS : s.heap.objs.size ∉ [(s.heap.push (newSet w)).objs.size, l] := by
          rw [hz]
          intro z
          rcases List.mem_cons.mp z with z | z
          · exact Nat.ne_of_lt (Nat.lt_succ_self _) z
          · exact Nat.ne_of_gt ltl (List.mem_singleton.mp z)
        refine loop_any ((Walks.list h3 _ l neI items).toS) outS J (fun i h1 h2 j k => stay i h1 h2 j fun b o hb e => k b o (fun z => ?_) e) (fun i v s' Q' E' lt pv j k => add _ i v s' Q' E' ?_ pv j k) (items.size - 0) 0 _ (by omega) (Nat.zero_le _) ⟨⟨_, Heap.get?_push_size _ rfl, rfl, rfl⟩, isl.push _⟩ (start _ (Heap.get?_push_of_some _ at_) fun b o e => Heap.get?_push_of_some _ (Heap.get?_push_of_some _ e)) fun s' mv j => ?_
        · rw [List.mem_singleton.mp z, hz] at hb
          exact Nat.not_succ_le_self _ hb
        · simp
        · obtain ⟨h', g', d', tk', os'⟩ := s'
          have eg : g' = s.gens := mv.gens
          have ed : d' = s.drawn := mv.drawn
          have eo : os' = s.os := mv.os
          subst eg ed eo
          refine wpAny_pure (show wpAny _ _ (ret Value.none) _ _ _ from wpAny_pure ⟨rfl, h', tk', rfl, j, fun b o e => ?_⟩)
          have lb : b < s.heap.objs.size := Heap.lt_size e
          refine mv.heap b o (fun z => ?_) (Heap.get?_push_of_some _ (Heap.get?_push_of_some _ e))
          rcases List.mem_cons.mp z with z | z
          · exact Nat.ne_of_lt lb z
          · rw [List.mem_singleton.mp z, hz] at lb
            exact Nat.lt_irrefl _ (Nat.lt_of_succ_lt lb)
      · cases r₂ with
        | error e => exact hr₂
        | ok fl₂ =>
          cases fl₂ with
          | next => exact hr₂.elim
          | brk => exact hr₂.elim
          | cont => exact hr₂.elim
          | ret r =>
            obtain ⟨rfl, h', tk, rfl, j, k⟩ := hr₂
            repeat (any_goals (first | assumption | wp_step))
            exact h _ _ j k
end
end Pb

namespace Pb
open PySem PySem.Spec PyProof.Rows L2
/-! ### a set of texts -/
def txOf (e : Int × Value) : Str := match e.2 with | .str x _ => x | _ => Str.empty
def TxE (P : Program) (w : World) (e : Int × Value) : Prop := ∃ x tk, e.2 = Value.str x tk ∧ e.1 = (PySem.strKind P w).hash x
/-- the set at a has just the texts ks, in the order of its table -/
def SetS (P : Program) (w : World) (h : Heap) (a : Addr) (ks : List Str) : Prop := ∃ o es ep t, h.get? a = some o ∧ o.ExactSet ∧ o.data = .set es ep t ∧ (∀ e ∈ es.toList, TxE P w e) ∧ es.toList.map txOf = ks ∧ ks.Nodup ∧ es.size < scanBound ∧ t.fits es.size = true ∧
  Ris t.place.toList ∧ (w.params.followText "set-order" = true ∨ t.led = true)
section
variable {P : Program} {w : World} {A : Around} {E : Value → Shared → Prop} {s : Shared} {a : Addr} {ks : List Str} {x : Str} {tk : Tok}
theorem TxE.is {e : Int × Value} (h : TxE P w e) (k : Str) : (PySem.strKind P w).is k e.2 = decide (k = txOf e) := by
  obtain ⟨x, t, e1, _⟩ := h
  have e2 : txOf e = x := by unfold txOf; rw [e1]
  rw [e2, e1]
  exact KeyKind.is_eq_decide (strKind_is _ _ _ _) k
theorem tx_elems {l : List (Int × Value)} (h : ∀ e ∈ l, TxE P w e) : ElemsOf (PySem.strKind P w) l := fun e he => by
  obtain ⟨x, t, e1, e2⟩ := h e he
  rw [e1]
  exact ⟨⟨x, strKind_is _ _ _ _, e2⟩, rfl⟩
theorem SetS.at {h h' : Heap} (R : SetS P w h a ks) (k : ∀ o, h.get? a = some o → h'.get? a = some o) : SetS P w h' a ks := by
  obtain ⟨o, es, ep, t, ho, r⟩ := R
  exact ⟨o, es, ep, t, k o ho, r⟩
/-- one that isn't there yet is laid, and all perhaps laid anew -/
theorem tail_tx {g : Bool → Sem Unit} (hg : ∀ (b : Bool) (s₁ : Shared) (Q' : Unit → Shared → Prop), Q' () s₁ → wpAny (model P w) A (g b) Q' E s₁) {o : Obj} {es es1 : Array (Int × Value)} {ep : Nat} {t t2 : SetTable} (ho : s.heap.get? a = some o) (hex : o.ExactSet) (hd : o.data = .set es ep t)
    (good : ∀ e ∈ es1.toList, TxE P w e) (nd : (es1.toList.map txOf).Nodup) (few : es1.size < scanBound) (fit : t2.fits es1.size = true) (ris : Ris t2.place.toList) (led : w.params.followText "set-order" = true ∨ t2.led = true) {wd : Bool} {R : Option Bool → Shared → Prop}
    (hR : ∀ h' ks', Heap.SameBut a s.heap h' → SetS P w h' a ks' → ks'.Perm (es1.toList.map txOf) → R (some true) { s with heap := h' }) :
    wpAny (model P w) A (do
        storeSet a es1 t2
        if (!wd && t2.tooFull) = true then do
            g (relayAll t2 es1 (SetTable.grown es1.size)).2.2
            storeSet a (relayAll t2 es1 (SetTable.grown es1.size)).1 (relayAll t2 es1 (SetTable.grown es1.size)).2.1
            pure (some true)
          else pure (some true)) R E s := by
  refine wpAny_bind (wpAny_storeSet_of ho hd ?_ (fits_of_scanBound few))
  have h1 := store_at (es' := es1) (t' := t2) ho hd
  have b1 := Heap.SameBut.update s.heap a (Obj.putSet es1 t2)
  split
  · have p2 := relayAll_perm t2 es1 (SetTable.grown es1.size); have f2 := relayAll_fits t2 es1 (SetTable.grown es1.size)
    have r2 := relayAll_ris t2 es1 (SetTable.grown es1.size); have l2 := relayAll_led t2 es1 (SetTable.grown es1.size)
    generalize relayAll t2 es1 (SetTable.grown es1.size) = Z at p2 f2 r2 l2 ⊢
    obtain ⟨es2, t3, gave⟩ := Z
    dsimp only at p2 f2 r2 l2 ⊢
    have sz : es2.size = es1.size := by
      have := p2.length_eq
      rw [Array.length_toList, Array.length_toList] at this
      exact this
    refine wpAny_bind (hg _ _ _ (wpAny_bind (wpAny_storeSet_of h1 rfl ?_ (fits_of_scanBound (by rw [sz]; exact few)))))
    refine wpAny_pure (hR _ (es2.toList.map txOf) (b1.trans (Heap.SameBut.update _ a _)) ⟨_, es2, _, t3, store_at (es' := es2) (t' := t3) h1 rfl, hex, rfl, fun e he => good e (p2.mem_iff.mp he), rfl, (p2.map txOf).nodup_iff.mpr nd, by rw [sz]; exact few, f2, r2, ?_⟩ (p2.map txOf))
    rcases led with z | z
    · exact .inl z
    · exact .inr (l2.trans z)
  · exact wpAny_pure (hR _ _ b1 ⟨_, es1, _, t2, h1, hex, rfl, good, rfl, nd, few, fit, ris, led⟩ (List.Perm.refl _))
theorem add_tx {Q : Bool → Shared → Prop} (R : SetS P w s.heap a ks) (room : ks.length + 1 < scanBound)
    (hQ : ∀ b h' ks', Heap.SameBut a s.heap h' → SetS P w h' a ks' → (x ∈ ks → ks' = ks) → (x ∉ ks → ks'.Perm (x :: ks)) → Q b { s with heap := h' }) : wpAny (model P w) A (setAddHashed a (.str x tk) ((PySem.strKind P w).hash x)) Q E s := by
  have R0 := R
  obtain ⟨o, es, ep, t, ho, hex, hd, good, rfl, nd, few, fit, ris, led⟩ := R
  have key : (PySem.strKind P w).is x (.str x tk) = true := strKind_is _ _ _ _
  have elm : ElemsOf (PySem.strKind P w) es.toList := tx_elems good
  unfold setAddHashed setAddHashedIn
  refine wpAny_holding (wpAny_bind (wpAny_setState_of ho hd fit ?_))
  dsimp only
  rw [byScan_of (show (Value.str x tk).scannable = true from rfl) few elm]
  simp only [↓reduceIte]
  unfold setAddByScan
  refine wpAny_bind (wpAny_bind (wpAny_rule (wpAny_bind (wpAny_setScan_of key ho hd fit elm ?_))))
  cases fi : List.findIdx? (fun e => (PySem.strKind P w).is x e.2) es.toList with
  | some j =>
    dsimp only
    obtain ⟨hj, pj, _⟩ := List.findIdx?_eq_some_iff_getElem.mp fi
    have ge := good _ (List.getElem_mem hj)
    rw [ge.is] at pj
    have inn : x ∈ es.toList.map txOf := List.mem_map.mpr ⟨es.toList[j], List.getElem_mem hj, (of_decide_eq_true pj).symm⟩
    exact wpAny_pure (wpAny_pure (hQ _ s.heap _ (Heap.SameBut.refl a s.heap) R0 (fun _ => rfl) fun z => absurd inn z))
  | none =>
    dsimp only
    have nin : x ∉ es.toList.map txOf := fun z => by
      obtain ⟨e, he, q⟩ := List.mem_map.mp z
      have c := List.findIdx?_eq_none_iff.mp fi e he
      rw [(good e he).is] at c
      exact absurd q.symm (of_decide_eq_false c)
    have gw : ∀ (b : Bool) {s₁ : Shared} {Q' : Unit → Shared → Prop}, Q' () s₁ → wpAny (model P w) A (match b with | true => rule "set.scan.the-table-gave-way" | false => pure ()) Q' E s₁ := fun b s₁ Q' q => by
      cases b
      · exact wpAny_pure q
      · exact wpAny_rule q
    have p1 := layNew_perm t es ((PySem.strKind P w).hash x) (.str x tk); have f1 := layNew_fits t es ((PySem.strKind P w).hash x) (.str x tk)
    have r1 := layNew_ris t es ((PySem.strKind P w).hash x) (.str x tk) ris; have l1 := layNew_led t es ((PySem.strKind P w).hash x) (.str x tk)
    generalize layNew t es ((PySem.strKind P w).hash x) (.str x tk) = Z at p1 f1 r1 l1 ⊢
    obtain ⟨es1, t1, wd, gave⟩ := Z
    dsimp only at p1 f1 r1 l1 ⊢
    rw [Array.toList_push] at p1
    have pc : es1.toList.Perm (((PySem.strKind P w).hash x, Value.str x tk) :: es.toList) := p1.trans (List.perm_append_singleton _ _)
    have pk : (es1.toList.map txOf).Perm (x :: es.toList.map txOf) := pc.map txOf
    have g1 : ∀ e ∈ es1.toList, TxE P w e := fun e he => by
      rcases List.mem_cons.mp (pc.mem_iff.mp he) with z | z
      · rw [z]
        exact ⟨x, tk, rfl, rfl⟩
      · exact good e z
    have n1 : (es1.toList.map txOf).Nodup := pk.nodup_iff.mpr (List.nodup_cons.mpr ⟨nin, nd⟩)
    have few1 : es1.size < scanBound := by
      have := pk.length_eq
      rw [List.length_map, Array.length_toList, List.length_cons] at this
      rw [this]
      exact room
    have led1 : w.params.followText "set-order" = true ∨ t1.led = true := by
      rcases led with z | z
      · exact .inl z
      · exact .inr (l1.trans z)
    have fin : ∀ h' ks', Heap.SameBut a s.heap h' → SetS P w h' a ks' → ks'.Perm (es1.toList.map txOf) → Q true { s with heap := h' } := fun h' ks' sb r p => hQ true h' ks' sb r (fun z => absurd z nin) fun _ => p.trans pk
    refine wpAny_bind (gw _ ?_)
    split
    · rw [hashByValue_scannable 8 (show (Value.str x tk).scannable = true from rfl)]
      refine wpAny_bind (wpAny_pure ?_)
      refine tail_tx (fun b s₁ Q' q => ?_) ho hex hd g1 n1 few1 ?_ ?_ ?_ (fun h' ks' sb r p => ?_)
      · cases b <;> first | exact wpAny_pure q | exact wpAny_rule q
      · first | (split <;> first | exact f1 | exact SetTable.fits_plain_off f1) | exact f1
      · first | (split <;> exact r1) | exact r1
      · first | (split <;> exact led1) | exact led1
      · dsimp only; exact wpAny_pure (fin h' ks' sb r p)
    · refine wpAny_bind (wpAny_pure ?_)
      simp only [↓reduceIte]
      refine tail_tx (fun b s₁ Q' q => ?_) ho hex hd g1 n1 few1 f1 r1 led1 (fun h' ks' sb r p => ?_)
      · cases b <;> first | exact wpAny_pure q | exact wpAny_rule q
      · dsimp only; exact wpAny_pure (fin h' ks' sb r p)
theorem setS_new {h : Heap} (ho : h.get? a = some (newSet w)) : SetS P w h a [] := ⟨_, #[], 0, _, ho, ⟨rfl, rfl, rfl⟩, rfl, (fun e he => by simp at he), rfl, List.nodup_nil, (by decide), (by rfl), List.Pairwise.nil, by
  cases hb : w.params.followText "set-order"
  · exact .inr rfl
  · exact .inl rfl⟩
/-- set(ys), ys a list of texts -/
theorem call_setTx {l : Addr} {items : Array Value} {ys : List Str} {Q : Value → Shared → Prop} (hh : A.handled = none) (hl : s.heap.IsList l items) (hy : StrsAre items.toList ys) (hb : ys.length + 1 < scanBound)
    (h : ∀ (h' : Heap) (tk : Nat) (ks : List Str), SetS P w h' s.heap.objs.size ks → (∀ x, x ∈ ks ↔ x ∈ ys) → (∀ b o, s.heap.get? b = some o → h'.get? b = some o) → Q (.ref s.heap.objs.size) { s with heap := h', toks := tk }) : wpAny (model P w) A (call (.type "set") [.ref l]) Q E s := by
  have sz : items.size = ys.length := by
    have := StrsAre.len_eq hy
    rw [Array.length_toList] at this
    exact this
  refine call_setL (fun i h => ∃ ks, SetS P w h s.heap.objs.size ks ∧ ks.length ≤ i ∧ ∀ x, x ∈ ks ↔ x ∈ ys.take i) hh hl (fun i h h' j k => ?_) (fun h ho _ => ⟨[], setS_new ho, Nat.le_refl _, fun x => by simp⟩) (fun A' i v s' Q' E' _ hv j q => ?_) (fun h' tk j k => ?_)
  · obtain ⟨ks, r, m⟩ := j
    exact ⟨ks, r.at fun o e => k _ o (Nat.le_refl _) e, m⟩
  · obtain ⟨ks, r, le, m⟩ := j
    have lt : i < ys.length := by
      rw [← sz]
      exact (Array.getElem?_eq_some_iff.mp hv).1
    obtain ⟨t, rfl⟩ := SS.strs_at hy i v (by rw [Array.getElem?_toList]; exact hv)
    have ey : ys.getD i Str.empty = ys[i] := by
      rw [List.getD_eq_getElem?_getD, List.getElem?_eq_getElem lt]
      rfl
    rw [ey]
    have tk1 : ys.take (i + 1) = ys.take i ++ [ys[i]] := by
      rw [List.take_add_one, List.getElem?_eq_getElem lt]
      rfl
    unfold setAdd
    refine wpAny_holding (wpAny_bind ((PySem.strKind P w).pyHash (k := ys[i]) (strKind_is _ _ _ _) ?_))
    refine add_tx (s := { s' with toks := s'.toks + 1 }) r (by omega) fun b h' ks' sb r' c1 c2 => ?_
    refine q b h' (s'.toks + 1) sb (Nat.le_succ _) ⟨ks', r', ?_, fun x => ?_⟩
    · by_cases c : ys[i] ∈ ks
      · rw [c1 c]
        omega
      · rw [(c2 c).length_eq, List.length_cons]
        omega
    · rw [tk1, List.mem_append, List.mem_singleton, ← m x]
      by_cases c : ys[i] ∈ ks
      · rw [c1 c]
        exact ⟨.inl, fun z => z.elim id fun e => e ▸ c⟩
      · rw [(c2 c).mem_iff, List.mem_cons]
        exact Or.comm
  · obtain ⟨ks, r, le, m⟩ := j
    rw [sz, List.take_length] at m
    exact h h' tk ks r m k
/-- sorted of a set of texts -/
theorem sorted_setTx {Q : Value → Shared → Prop} (R : SetS P w s.heap a ks) (hh : A.handled = none) (h64 : ks.length < 64)
    (hQ : ∀ s' p (out : Array Value) (c : Nat) (zs : List Str), (∀ b o, s.heap.get? b = some o → s'.heap.get? b = some o) → s'.gens = s.gens → s'.os = s.os → s.heap.objs.size ≤ p → s'.heap.get? p = some (seqObj "list" out c) → StrsAre out.toList zs → zs.Perm ks → sortedS zs = true → Q (.ref p) s') :
    wpAny (model P w) A (call (.builtin "sorted") [.ref a]) Q E s := by
  obtain ⟨o, es, ep, t, ho, hex, hd, good, rfl, nd, few, fit, ris, led⟩ := R
  refine Calls.call_function_entry kind_sorted plain_sorted entry_sorted (args_sorted1 _) ?_
  unfold Builtin.«sorted»
  refine wpAny_bind (m := checkCount "sorted" 1 1 _) (wpAny_pure (wpAny_bind (collect_set (A := A.in1) hh ⟨o, ho, hex.1, hd⟩ fit few ris led fun s1 vs k1 hz g1 o1 pm => ?_)))
  have vl : vs.length < 64 := by
    rw [pm.length_eq, List.length_map]
    rw [List.length_map] at h64
    exact h64
  have all : ∀ v ∈ vs, ∃ x t, v = Value.str x t := fun v hv => by
    obtain ⟨e, he, q⟩ := List.mem_map.mp (pm.mem_iff.mp hv)
    obtain ⟨x, t, e1, _⟩ := good e he
    exact ⟨x, t, by rw [← q, e1]⟩
  have hS : StrsAre vs (vs.map strOf) := strsAre_map vs all
  have pk : (vs.map strOf).Perm (es.toList.map txOf) := by
    have q := pm.map strOf
    rw [List.map_map] at q
    have e : es.toList.map (strOf ∘ fun x => x.2) = es.toList.map txOf := List.map_congr_left fun e he => by
      obtain ⟨x, t, e1, _⟩ := good e he
      show strOf e.2 = txOf e
      unfold txOf
      rw [e1]
      rfl
    rw [e] at q
    exact q
  refine wpAny_bind (wpAny_newList ?_ (by rw [sizeLine_eq]; omega))
  have at_ : (s1.heap.push (seqObj "list" vs.toArray 0)).get? s1.heap.objs.size = some (seqObj "list" vs.toArray 0) := Heap.get?_push_size _ rfl
  refine wpAny_bind (wpAny_holding (wpAny_call_entry slot_list_sort ⟨_, at_, rfl⟩ entry_list_sort (list_sort_treeK strKind_oneLt at_ hS.keysOf (fun v₁ v₂ rest e => keyKind_strs (by rw [← e]; exact hS)) vl fun st' hp hs => ⟨_, rfl, ?_⟩) (args_list_sort _)))
  obtain ⟨zs, z1, z2, z3⟩ := sorted_out_str hS hp hs
  obtain ⟨c, hc⟩ := sortedHeap_at (vs := vs) (out := (arrOf st').map (·.2)) at_
  refine wpAny_pure ⟨_, rfl, hQ _ s1.heap.objs.size _ c zs (fun b u e => ?_) g1 o1 hz hc z1 (z2.trans pk) z3⟩
  have lt := Heap.lt_size (k1 b u e)
  exact (sortedHeap_old (Nat.ne_of_lt lt) (by rw [size_push']; exact Nat.lt_succ_of_lt lt)).trans (Heap.get?_push_of_some _ (k1 b u e))
end
section
variable {X : Cx}
theorem nodup_le {α : Type} [DecidableEq α] : ∀ (l D : List α), l.Nodup → (∀ x ∈ l, x ∈ D) → l.length ≤ D.length
  | [], _, _, _ => Nat.zero_le _
  | x :: l, D, hn, hs => by
    obtain ⟨h1, h2⟩ := List.nodup_cons.mp hn
    have hx : x ∈ D := hs x List.mem_cons_self
    have ih := nodup_le l (D.erase x) h2 fun y hy => (List.mem_erase_of_ne (fun e : y = x => h1 (e ▸ hy))).2 (hs y (List.mem_cons_of_mem _ hy))
    have e := List.length_erase_of_mem hx
    have hp : 0 < D.length := List.length_pos_of_mem hx
    rw [List.length_cons]
    omega
/-- sorted(set(ys)), ys a list of texts, all of them of a few -/
def tSortSet (K : PySem.W.Frag) (ta : TE) : TE := fun σ H Q => ta σ H fun x H1 => ∃ (l : Addr) (ys D : List Str), x = .ref l ∧ SqL K H1 l (ys.map V.str) ∧ ys.length ≤ 4000 ∧ D.length < 64 ∧ (∀ y ∈ ys, y ∈ D) ∧
  ∀ (zs : List Str) (p : Addr), zs.Nodup → sortedS zs = true → (∀ z, z ∈ zs ↔ z ∈ ys) → H1 p = none → Q (.ref p) (upd H1 p (.lst (zs.map V.str)))
theorem pe_sortSet {a : Expr} {ta : TE} {p p2 q pos : Pos} (hg : Gl X "sorted") (hm : X.mg "sorted" = none) (hg2 : Gl X "set") (hm2 : X.mg "set" = none) (ha : PE X a ta) (hc : X.calm = true := by rfl)
    (na : starEach [a] X.env = (false, eval a X.env) :: starEach [] X.env := by rfl) : PE X (.Call (.Name "sorted" p) [.Call (.Name "set" p2) [a] [] q] [] pos) (tSortSet X.K ta) := by
  refine ⟨fun pins s σ H Q I h => ?_⟩
  refine Call_ (ld_blt I hg hm boot_sorted (PyProof.Rows.callWith_builtin1 (PyProof.Rows.args_cons ?_ rfl) rfl rfl))
  refine Call_ (ld_blt I hg2 hm2 boot_set (PyProof.Rows.callWith_type1 (PyProof.Rows.args_cons (thn (ha.run pins s σ H _ I h) fun v s1 z => PyProof.Rows.args_nil ?_) na) na rfl))
  obtain ⟨x, H1, I1, r1, l, ys, D, rfl, hq, hl, hD, sub, q1⟩ := z
  cases r1
  obtain ⟨its, r, pl, hz⟩ := I1.list hq
  have ln : its.length = ys.length := by rw [← r.length, List.length_map]
  refine call_setTx (I1.ok.hd hc) pl.isList (ys := ys) (by simpa using r.strs) (by unfold scanBound; omega) fun h' tk ks S mem keep => PyProof.Rows.args_nil ?_
  have I2 : Inv X pins σ H1 { s1 with heap := h', toks := tk } := I1.kept fun b o e => keep b o e
  have nd : ks.Nodup := by
    obtain ⟨_, _, _, _, _, _, _, _, _, nd, _⟩ := S
    exact nd
  have few : ks.length < 64 := Nat.lt_of_le_of_lt (nodup_le ks D nd fun x hx => sub x ((mem x).1 hx)) hD
  refine sorted_setTx (s := { s1 with heap := h', toks := tk }) S (I1.ok.hd hc) few fun s' p out c zs k g o hp hg' hi pm so => ?_
  have hlen : (zs.map V.str).length ≤ sizeLine := by
    rw [List.length_map, pm.length_eq, sizeLine_eq]
    omega
  have hn : H1 p = none := I2.hok.fresh hp
  have J : Inv X pins σ (upd H1 p (.lst (zs.map V.str))) { ({ s1 with heap := h', toks := tk } : Shared) with heap := s'.heap, gens := s'.gens, drawn := s'.drawn, toks := s'.toks } :=
    I2.call (ch := []) (Un.laid k hp hn) (I2.hok.laid k hp ⟨hlen, out.toList, c, vals_of_strs hi, hg'⟩) (by rw [g]; exact I2.bare) (fun _ z => nomatch z)
  have e : s' = { ({ s1 with heap := h', toks := tk } : Shared) with heap := s'.heap, gens := s'.gens, drawn := s'.drawn, toks := s'.toks } := by
    cases s'
    cases s1
    cases o
    rfl
  rw [e]
  exact ⟨.ref p, _, J, rfl, q1 zs p (pm.nodup_iff.mpr nd) so (fun z => by rw [pm.mem_iff, mem z]) hn⟩
end
end Pb

namespace Pb
open PySem PySem.Spec PyProof.Rows L2 TL
/-! ### xs.extend(tuple) -/
theorem meets_extT (l b : Addr) (xs ys : Array Value) (n m : Nat) (dct : Option Addr) (sl : Array (Option Value)) (h0 : ¬(!xs.isEmpty && Builtin.List.listTooLong (xs.size + ys.size)) = true) (h1 : xs.size ≤ sizeLine) (h2 : xs.size + ys.size ≤ sizeLine + 1) :
    Meets (Builtin.«list.extend» ⟨[.ref l, .ref b], []⟩) (fun _ R s => s.heap.get? l = some { cls := .type "list", dict := none, data := .seq xs n, slots := #[] } ∧ s.heap.get? b = some { cls := .type "tuple", dict := dct, data := .seq ys m, slots := sl } ∧ R (.ok (.ret Value.none)) { s with heap := s.heap.update l (Obj.mapSeq fun x => x ++ ys), toks := s.toks }) :=
  .of_wp fun prog w A R s h => by
    obtain ⟨hp, g, d, tk, os⟩ := s
    obtain ⟨hl, hb, h⟩ := h
    have f1 := AutoSeq1.idx_int; have f2 := AutoSeq1.sub_tuple_tuple; have f3 := AutoSeq1.sub_list_list
    have f4 := AutoSeq1.sub_tuple_list; have f5 := AutoSeq1.sub_list_tuple
    have hz : (xs ++ ys).size ≤ sizeLine + 1 := by rw [Array.size_append]; exact h2
    wp_walk using (wpAny_updateSeq hl rfl (hz := h1) (_hz' := hz)), AutoSeq1.wpAny_loadPart' hl, AutoSeq1.wpAny_loadPart' hb
    exact ⟨_, rfl, h⟩
def rExtT (K : PySem.W.Frag) : V → List V → Hp → VK → Prop := fun x vs H Q => ∃ l b xs zs, x = .ref l ∧ vs = [.ref b] ∧ H l = some (.lst xs) ∧ SqT K H b zs ∧ xs.length + zs.length ≤ sizeLine ∧ Q .non (upd H l (.lst (xs ++ zs)))
theorem mt_extT {X : Cx} : MtM X "list.extend" (rExtT X.K) := by
  intro pins s σ H x vs v us Q I rx rv h
  obtain ⟨l, b, xs, zs, rfl, rfl, hH, hB, hz, q⟩ := h
  cases rx
  obtain ⟨u, rfl, ru⟩ := rv.one
  cases ru
  obtain ⟨z, its, n, r, hl, e⟩ := I.lstM hH
  obtain ⟨its2, r2, ⟨⟨oc, od, oo, osl⟩, e2, hc, m, hd⟩, z2⟩ := I.tuple hB
  dsimp only at hc hd
  subst hc hd
  have l2 := r2.length
  have hsz : its.toArray.size + its2.toArray.size ≤ sizeLine := by rw [List.size_toArray, List.size_toArray]; omega
  refine call_meets F.slot_list_extend ⟨_, e, rfl⟩ F.entry_list_extend (F.args_list_extend_2 _ _) (meets_extT l b its.toArray its2.toArray n m od osl (by rw [notLongL hsz, Bool.and_false]; exact Bool.false_ne_true) (by rw [List.size_toArray]; omega) (by omega)) ⟨e, e2, ?_⟩
  refine ⟨.non, _, I.lset (its' := its ++ its2) hH e (by simp) (r.append r2) ?_, rfl, q⟩
  rw [List.length_append]
  omega
/-! ### data of tuples, texts and numbers: what no store can change -/
mutual
inductive Dt (H : Hp) : V → PyData → Prop
  | non : Dt H .non .none
  | bl (b : Bool) : Dt H (.bl b) (.bool b)
  | int (i : Int) : Dt H (.int i) (.int i)
  | str (x : Str) : Dt H (.str x) (.str x)
  | tup {a : Addr} {vs : List V} {ds : List PyData} (h : H a = some (.tup vs)) (t : DtAll H vs ds) : Dt H (.ref a) (.tuple ds)
inductive DtAll (H : Hp) : List V → List PyData → Prop
  | nil : DtAll H [] []
  | cons {v : V} {d : PyData} {vs : List V} {ds : List PyData} (h : Dt H v d) (t : DtAll H vs ds) : DtAll H (v :: vs) (d :: ds)
end
/-- tuples stay -/
def TK (H H' : Hp) : Prop := ∀ a vs, H a = some (.tup vs) → H' a = some (.tup vs)
theorem TK.refl (H : Hp) : TK H H := fun _ _ h => h
theorem TK.trans {H H' H'' : Hp} (a : TK H H') (b : TK H' H'') : TK H H'' := fun x v h => b x v (a x v h)
theorem Same.tk {H H' : Hp} (s : Same H H') : TK H H' := fun a vs h => s a _ h
theorem Kp.tk {d : Addr} {n : Nat} {H H' : Hp} (k : Kp d H H') (dr : Dr H d n) : TK H H' := fun a vs h => k.tup dr h
theorem tk_updL {H : Hp} {r : Addr} {xs : List V} {o : HO} (e : H r = some (.lst xs)) : TK H (upd H r o) := fun a vs h => by
  rw [upd_ne (ne_of h e (by intro z; cases z))]
  exact h
mutual
theorem Dt.tk {H H' : Hp} (s : TK H H') : ∀ {v : V} {d : PyData}, Dt H v d → Dt H' v d
  | _, _, .non => .non
  | _, _, .bl b => .bl b
  | _, _, .int i => .int i
  | _, _, .str x => .str x
  | _, _, .tup h t => .tup (s _ _ h) (DtAll.tk s t)
theorem DtAll.tk {H H' : Hp} (s : TK H H') : ∀ {v : List V} {d : List PyData}, DtAll H v d → DtAll H' v d
  | _, _, .nil => .nil
  | _, _, .cons a b => .cons (Dt.tk s a) (DtAll.tk s b)
end
mutual
theorem Dt.dp {K : PySem.W.Frag} {H : Hp} : ∀ {v : V} {d : PyData}, Dt H v d → Dp K H v d
  | _, _, .non => .non
  | _, _, .bl b => .bl b
  | _, _, .int i => .int i
  | _, _, .str x => .str x
  | _, _, .tup h t => .tup (.of h) (DtAll.dp t)
theorem DtAll.dp {K : PySem.W.Frag} {H : Hp} : ∀ {v : List V} {d : List PyData}, DtAll H v d → DpAll K H v d
  | _, _, .nil => .nil
  | _, _, .cons a b => .cons (Dt.dp a) (DtAll.dp b)
end
theorem DtAll.len {H : Hp} : ∀ {v : List V} {d : List PyData}, DtAll H v d → v.length = d.length
  | _, _, .nil => rfl
  | _, _, .cons _ b => congrArg Nat.succ (DtAll.len b)
theorem DtAll.app {H : Hp} : ∀ {v u : List V} {d e : List PyData}, DtAll H v d → DtAll H u e → DtAll H (v ++ u) (d ++ e)
  | _, _, _, _, .nil, h => h
  | _, _, _, _, .cons a b, h => .cons a (DtAll.app b h)
theorem DtAll.get {H : Hp} : ∀ {vs : List V} {ds : List PyData}, DtAll H vs ds → ∀ (i : Nat) (d : PyData), ds[i]? = some d → ∃ v, vs[i]? = some v ∧ Dt H v d
  | _, _, .nil, i, d, h => by simp at h
  | _, _, .cons (v := v) a b, 0, d, h => by
    have e := Option.some.inj h
    subst e
    exact ⟨v, rfl, a⟩
  | _, _, .cons a b, i + 1, d, h => DtAll.get b i d h
theorem DtAll.getV {H : Hp} : ∀ {vs : List V} {ds : List PyData}, DtAll H vs ds → ∀ (i : Nat) (v : V), vs[i]? = some v → ∃ d, ds[i]? = some d ∧ Dt H v d
  | _, _, .nil, i, d, h => by simp at h
  | _, _, .cons (d := d) a b, 0, v, h => by
    have e := Option.some.inj h
    subst e
    exact ⟨d, rfl, a⟩
  | _, _, .cons a b, i + 1, d, h => DtAll.getV b i d h
theorem DtAll.take {H : Hp} : ∀ {vs : List V} {ds : List PyData}, DtAll H vs ds → ∀ n, DtAll H (vs.take n) (ds.take n)
  | _, _, .nil, n => by simpa using DtAll.nil
  | _, _, .cons a b, 0 => .nil
  | _, _, .cons a b, n + 1 => .cons a (DtAll.take b n)
theorem DtAll.drop {H : Hp} : ∀ {vs : List V} {ds : List PyData}, DtAll H vs ds → ∀ n, DtAll H (vs.drop n) (ds.drop n)
  | _, _, .nil, n => by simpa using DtAll.nil
  | _, _, .cons a b, 0 => .cons a b
  | _, _, .cons a b, n + 1 => DtAll.drop b n
theorem Dt.tup' {H : Hp} {v : V} {ds : List PyData} (h : Dt H v (.tuple ds)) : ∃ a vs, v = .ref a ∧ H a = some (.tup vs) ∧ DtAll H vs ds := by
  cases h with
  | tup h t => exact ⟨_, _, rfl, h, t⟩
theorem Dt.str' {H : Hp} {v : V} {x : Str} (h : Dt H v (.str x)) : v = .str x := by
  cases h
  rfl
theorem Dt.int' {H : Hp} {v : V} {i : Int} (h : Dt H v (.int i)) : v = .int i := by
  cases h
  rfl
theorem DtAll.nil' {H : Hp} {vs : List V} (h : DtAll H vs []) : vs = [] := by
  cases h
  rfl
theorem DtAll.cons' {H : Hp} {vs : List V} {d : PyData} {ds : List PyData} (h : DtAll H vs (d :: ds)) : ∃ v r, vs = v :: r ∧ Dt H v d ∧ DtAll H r ds := by
  cases h with
  | cons a b => exact ⟨_, _, rfl, a, b⟩
theorem DtAll.strs {H : Hp} : ∀ {vs : List V} {xs : List Str}, DtAll H vs (xs.map .str) → vs = xs.map V.str
  | vs, [], h => h.nil'
  | vs, x :: xs, h => by
    obtain ⟨v, r, rfl, a, b⟩ := h.cons'
    rw [a.str', DtAll.strs b]
    rfl
theorem dtAll_strs {H : Hp} : ∀ (xs : List Str), DtAll H (xs.map V.str) (xs.map .str)
  | [] => .nil
  | x :: xs => .cons (.str x) (dtAll_strs xs)
theorem DtAll.ints {H : Hp} : ∀ {vs : List V} {xs : List Int}, DtAll H vs (xs.map .int) → vs = xs.map V.int
  | vs, [], h => h.nil'
  | vs, x :: xs, h => by
    obtain ⟨v, r, rfl, a, b⟩ := h.cons'
    rw [a.int', DtAll.ints b]
    rfl
theorem DtAll.snoc {H : Hp} {vs : List V} {ds : List PyData} {v : V} {d : PyData} (h : DtAll H vs ds) (a : Dt H v d) : DtAll H (vs ++ [v]) (ds ++ [d]) := h.app (.cons a .nil)
/-- a list of such data -/
def LD (H : Hp) (r : Addr) (ds : List PyData) : Prop := ∃ vs, H r = some (.lst vs) ∧ DtAll H vs ds
theorem LD.same {H H' : Hp} {r : Addr} {ds : List PyData} (h : LD H r ds) (s : Same H H') : LD H' r ds := by
  obtain ⟨vs, e, t⟩ := h
  exact ⟨vs, s _ _ e, t.tk (Same.tk s)⟩
theorem LD.kp {d : Addr} {n : Nat} {H H' : Hp} {r : Addr} {ds : List PyData} (h : LD H r ds) (k : Kp d H H') (dr : Dr H d n) : LD H' r ds := by
  obtain ⟨vs, e, t⟩ := h
  exact ⟨vs, k.lst dr e, t.tk (k.tk dr)⟩
theorem LD.dp {K : PySem.W.Frag} {H : Hp} {r : Addr} {ds : List PyData} (h : LD H r ds) : Dp K H (.ref r) (.list ds) := by
  obtain ⟨vs, e, t⟩ := h
  exact .lst (.of e) t.dp
theorem LD.strs {H : Hp} {r : Addr} {xs : List Str} (h : LD H r (xs.map .str)) : H r = some (.lst (xs.map V.str)) := by
  obtain ⟨vs, e, t⟩ := h
  rw [e, t.strs]
theorem LD.push {H : Hp} {r : Addr} {ds : List PyData} {v : V} {d : PyData} {vs : List V} (e : H r = some (.lst vs)) (t : DtAll H vs ds) (a : Dt H v d) : LD (upd H r (.lst (vs ++ [v]))) r (ds ++ [d]) := ⟨vs ++ [v], upd_same, (t.tk (tk_updL e)).snoc (a.tk (tk_updL e))⟩
theorem same_mut {H H' : Hp} {r : Addr} {o : HO} (s : Same H H') (h : H r = none) : Same H (upd H' r o) := fun a u e => by
  rw [upd_ne (ne_none e h)]
  exact s a u e
theorem same_none {H H' : Hp} {r : Addr} (s : Same H H') (h : H' r = none) : H r = none := none_of s h
/-- a comprehension that only makes new things, over anything that is walked -/
theorem lc_gen {J : It} {n : Nat} {G : Hp → Prop} {Y : Nat → Hp → V → Hp → Prop} (W : Walk J n G Y) {α : Type} {xs : List α} {f gd : α → PyData} {p : α → Bool} {g : TG} {tt : TT} {te : TE} {own : List Nat} {σ : L2.St} {H : Hp} {Q : VK} (hn : xs.length = n) (hs : n ≤ 20000) (hG : ∀ H1, Same H H1 → G H1)
    (hY : ∀ i a H1 x H2, xs[i]? = some a → Same H H1 → Y i H1 x H2 → Same H1 H2 ∧ Dt H2 x (f a))
    (turn : ∀ (a : α) (x : V) (H1 : Hp) (N1 : V → Hp → Prop) (N0 : Hp → Prop), a ∈ xs → Same H H1 → Dt H1 x (f a) → (∀ y H4, Same H1 H4 → p a = true → Dt H4 y (gd a) → N1 y H4) → (∀ H3, Same H1 H3 → p a = false → N0 H3) →
      g x (wipe σ own) H1 fun σ2 H2 => wipe σ2 own = wipe σ own ∧ tt σ2 H2 fun b H3 => if b = true then te σ2 H3 fun y H4 => N1 y H4 else N0 H3)
    (q : ∀ H' D, Same H H' → H D = none → LD H' D ((xs.filter p).map gd) → Q (.ref D) H') : tLc (fun _ H R => R J H) g tt te own σ H Q := by
  intro D nD
  refine lc_it W (fun k H' => Same H H' ∧ LD H' D (((xs.take k).filter p).map gd)) ⟨same_upd nD, [], upd_same, .nil⟩ (fun i H' _ pv => hG H' pv.1) (fun i x Ha Hb hi pv y => ?_) fun H' pv => ?_
  · obtain ⟨sm, vs, eD, t⟩ := pv
    have lt : i < xs.length := by omega
    have ga := List.getElem?_eq_getElem lt
    obtain ⟨s1, dx⟩ := hY i _ Ha x Hb ga sm y
    have mem : xs[i] ∈ xs := List.getElem_mem lt
    generalize xs[i] = a at ga dx mem
    have tk : (xs.take (i + 1)).filter p = (xs.take i).filter p ++ (if p a = true then [a] else []) := by
      rw [List.take_add_one, ga, List.filter_append]
      congr 1
      show List.filter _ [a] = _
      rw [List.filter_cons, List.filter_nil]
    have sv : vs.length < sizeLine := by
      have l1 := t.len
      rw [List.length_map] at l1
      have l2 := List.length_filter_le p (xs.take i)
      rw [List.length_take] at l2
      exact len20k (by omega)
    refine turn a x Hb _ _ mem (sm.trans s1) dx (fun y H4 s4 pa dy => ⟨vs, s4 _ _ (s1 _ _ eD), sv, ?_, ?_⟩) (fun H3 s3 pa => ⟨(sm.trans s1).trans s3, ?_⟩)
    · exact same_mut ((sm.trans s1).trans s4) nD
    · rw [tk, if_pos pa, List.map_append]
      exact LD.push (s4 _ _ (s1 _ _ eD)) (t.tk (Same.tk (s1.trans s4))) dy
    · rw [tk, if_neg (by rw [pa]; exact Bool.false_ne_true), List.append_nil]
      exact ⟨vs, s3 _ _ (s1 _ _ eD), t.tk (Same.tk (s1.trans s3))⟩
  · obtain ⟨sm, l⟩ := pv
    rw [← hn, List.take_length] at l
    exact q H' D sm nD l
theorem yAt {H H1 H2 : Hp} {α : Type} {xs : List α} {f : α → PyData} {vs : List V} (t : DtAll H vs (xs.map f)) {i : Nat} {a : α} {x : V} (ga : xs[i]? = some a) (s : Same H H1) (y : YAt vs i H1 x H2) : Same H1 H2 ∧ Dt H2 x (f a) := by
  obtain ⟨rfl, gx⟩ := y
  obtain ⟨v, gv, dv⟩ := t.get i (f a) (by rw [List.getElem?_map, ga]; rfl)
  rw [gv] at gx
  cases gx
  exact ⟨Same.refl _, dv.tk (Same.tk s)⟩
/-- .. over a tuple -/
theorem lc_tup {K : PySem.W.Frag} {s0 : Addr} {α : Type} {xs : List α} {f gd : α → PyData} {p : α → Bool} {g : TG} {tt : TT} {te : TE} {own : List Nat} {σ : L2.St} {H : Hp} {Q : VK} {vs : List V} (es : H s0 = some (.tup vs)) (t : DtAll H vs (xs.map f)) (hs : xs.length ≤ 20000)
    (turn : ∀ (a : α) (x : V) (H1 : Hp) (N1 : V → Hp → Prop) (N0 : Hp → Prop), a ∈ xs → Same H H1 → Dt H1 x (f a) → (∀ y H4, Same H1 H4 → p a = true → Dt H4 y (gd a) → N1 y H4) → (∀ H3, Same H1 H3 → p a = false → N0 H3) →
      g x (wipe σ own) H1 fun σ2 H2 => wipe σ2 own = wipe σ own ∧ tt σ2 H2 fun b H3 => if b = true then te σ2 H3 fun y H4 => N1 y H4 else N0 H3)
    (q : ∀ H' D, Same H H' → H D = none → LD H' D ((xs.filter p).map gd) → Q (.ref D) H') : tLc (fun _ H R => R (Itt K s0) H) g tt te own σ H Q := by
  have ln : xs.length = vs.length := by rw [t.len, List.length_map]
  exact lc_gen (walk_tup (K := K) (a := s0) (xs := vs)) ln (by omega) (fun H1 s => .of (s _ _ es)) (fun i a H1 x H2 ga s y => yAt t ga s y) turn q
/-- .. over a list -/
theorem lc_lst {K : PySem.W.Frag} {s0 : Addr} {α : Type} {xs : List α} {f gd : α → PyData} {p : α → Bool} {g : TG} {tt : TT} {te : TE} {own : List Nat} {σ : L2.St} {H : Hp} {Q : VK} {vs : List V} (es : H s0 = some (.lst vs)) (t : DtAll H vs (xs.map f)) (hs : xs.length ≤ 20000)
    (turn : ∀ (a : α) (x : V) (H1 : Hp) (N1 : V → Hp → Prop) (N0 : Hp → Prop), a ∈ xs → Same H H1 → Dt H1 x (f a) → (∀ y H4, Same H1 H4 → p a = true → Dt H4 y (gd a) → N1 y H4) → (∀ H3, Same H1 H3 → p a = false → N0 H3) →
      g x (wipe σ own) H1 fun σ2 H2 => wipe σ2 own = wipe σ own ∧ tt σ2 H2 fun b H3 => if b = true then te σ2 H3 fun y H4 => N1 y H4 else N0 H3)
    (q : ∀ H' D, Same H H' → H D = none → LD H' D ((xs.filter p).map gd) → Q (.ref D) H') : tLc (fun _ H R => R (Itl K s0) H) g tt te own σ H Q := by
  have ln : xs.length = vs.length := by rw [t.len, List.length_map]
  exact lc_gen (walk_list (K := K) (a := s0) (xs := vs)) ln (by omega) (fun H1 s => .of (s _ _ es)) (fun i a H1 x H2 ga s y => yAt t ga s y) turn q
/-- .. over range(n) -/
theorem lc_rng {n : Nat} {gd : Nat → PyData} {p : Nat → Bool} {g : TG} {tt : TT} {te : TE} {own : List Nat} {σ : L2.St} {H : Hp} {Q : VK} (hs : n ≤ 20000)
    (turn : ∀ (a : Nat) (x : V) (H1 : Hp) (N1 : V → Hp → Prop) (N0 : Hp → Prop), a ∈ List.range n → Same H H1 → Dt H1 x (.int (0 + (a : Nat))) → (∀ y H4, Same H1 H4 → p a = true → Dt H4 y (gd a) → N1 y H4) → (∀ H3, Same H1 H3 → p a = false → N0 H3) →
      g x (wipe σ own) H1 fun σ2 H2 => wipe σ2 own = wipe σ own ∧ tt σ2 H2 fun b H3 => if b = true then te σ2 H3 fun y H4 => N1 y H4 else N0 H3)
    (q : ∀ H' D, Same H H' → H D = none → LD H' D (((List.range n).filter p).map gd) → Q (.ref D) H') : tLc (fun _ H R => R (Itr 0 n) H) g tt te own σ H Q := by
  refine lc_gen (f := fun k : Nat => .int (0 + (k : Nat))) (walk_range (lo := 0) (n := n)) List.length_range hs (fun _ _ => trivial) (fun i a H1 x H2 ga s y => ?_) turn q
  obtain ⟨rfl, rfl⟩ := y
  have lt := (List.getElem?_eq_some_iff.mp ga).1
  rw [List.getElem?_eq_getElem lt] at ga
  have e : i = a := by simpa using ga
  subst e
  exact ⟨Same.refl _, .int _⟩
end Pb

namespace Pb
open PySem PySem.Spec PyProof.Rows L2 TL
/-! ### defs as they are known -/
/-- the def of that name keeps its promise -/
def Kn (P : Program) (w : World) (K : PySem.W.Frag) (mg : Str → Option Value) (base : Heap) (x : Str) (k : Nat) (ps : List Str) (sp : Sp) : Prop :=
  ∃ (f : Addr) (fd : FuncData), PySem.W.keepIn K (.ref f) = true ∧ mg x = some (.ref f) ∧ Binds K fd ps [] ∧ FnG P w K mg base CX0 k f fd ps sp
/-- the def st stands at the name x -/
def Df (K : PySem.W.Frag) (mg : Str → Option Value) (x : Str) (st : Stmt) : Prop := ∃ f fd, FnD K x st [] f fd ∧ mg x = some (.ref f)
section
variable {X : Cx} {k : Nat} {ps : List Str} {sp : Sp} {x : Str} {p pos : Pos} {e : Expr} {es : List Expr} {t : TA}
theorem pe_kn (N : Kn X.prog X.w X.K X.mg X.base x k ps sp) (gd : X.A.guards = some []) (hr : Room k X.A) (hg : Gl X x) (ha : PA X (e :: es) t) (hdb : (x == ("__debug__" : Str)) = false := by decide)
    (he : starEach (e :: es) X.env = (false, eval e X.env) :: starEach es X.env := by rfl) (hpl : (backTo pos (starEach es X.env)).any (·.1) = false := by rfl) : PE X (.Call (.Name x p) (e :: es) [] pos) (tCall sp [] E0 t) := by
  obtain ⟨f, fd, kp, g, b, G⟩ := N
  exact pe_callG G gd hr hg g kp b .nil pass0 ha hdb he hpl
end
section
variable {P : Program} {w : World} {K : PySem.W.Frag} {mg : Str → Option Value} {base : Heap} {x : Str} {st : Stmt} {k : Nat} {N ps : List Str} {sp : Sp}
theorem Df.kn (D : Df K mg x st) (S : FnScope N ps (defScope st)) (hb : ∀ (kV doc pm : Value) (an : Option Addr) (cdv ct : Value) (us : List Value), us.length = ps.length → bindArgs (PySem.W.fnOf x x (defArgs st) (defBody st) (defScope st) .none kV doc pm an cdv ct) ⟨us, []⟩ = pure (ps.zip us))
    (len : ∀ vs H Q E, sp vs H Q E → vs.length = ps.length)
    (hbody : ∀ (f : Addr) (cdv : Value) (A : Around) (outer : List Env) (s : Shared) (H : Hp) (vs : List V) (Q : VK) (E : XK), A.guards = some [] → Room k (A.deeper (envOfC x (defScope st) s.heap.objs.size f cdv)) → sp vs H Q E →
      ∃ t, PSs (cxOf CX0 P w K mg base N x (defScope st) f cdv A outer s H E) (defBody st) t ∧ t { nx := fun _ H' => Q .non H', rt := Q } (start N vs) H) : Kn P w K mg base x (k + 1) ps sp := by
  obtain ⟨f, fd, F, g⟩ := D
  exact ⟨f, fd, F.kp, g, F.bindsN hb, fnG_of F S len (hbody f)⟩
theorem Kn.mono {j : Nat} (N : Kn P w K mg base x k ps sp) (h : k ≤ j) : Kn P w K mg base x j ps sp := by
  obtain ⟨f, fd, kp, g, b, G⟩ := N
  exact ⟨f, fd, kp, g, b, G.mono h⟩
end
/-- the built-ins are what they were -/
structure BG (mg : Str → Option Value) : Prop where
  len : mg "len" = none
  range : mg "range" = none
  tuple : mg "tuple" = none
  list : mg "list" = none
  sum : mg "sum" = none
  min : mg "min" = none
  max : mg "max" = none
  repr : mg "repr" = none
  sorted : mg "sorted" = none
  set : mg "set" = none
  isinstance : mg "isinstance" = none
  enumerate : mg "enumerate" = none
  zip : mg "zip" = none
  str : mg "str" = none
  int : mg "int" = none
  all : mg "all" = none
theorem bt_tuple : bootBuiltins "tuple" = some (.type "tuple") := by decide +kernel
theorem bt_list : bootBuiltins "list" = some (.type "list") := by decide +kernel
theorem bt_sum : bootBuiltins "sum" = some (.builtin "sum") := by decide +kernel
theorem bt_min : bootBuiltins "min" = some (.builtin "min") := by decide +kernel
theorem bt_max : bootBuiltins "max" = some (.builtin "max") := by decide +kernel
/-! readings by name -/
def rTupOf (K : PySem.W.Frag) : List V → Hp → VK → Prop := fun xs H Q => ∃ p ys, xs = [.ref p] ∧ ((SqL K H p ys ∧ ∀ l, H l = none → Q (.ref l) (upd H l (.tup ys))) ∨ (SqT K H p ys ∧ Q (.ref p) H))
def rListOf (K : PySem.W.Frag) : List V → Hp → VK → Prop := fun xs H Q => ∃ p ys, xs = [.ref p] ∧ (SqL K H p ys ∨ SqT K H p ys) ∧ ∀ l, H l = none → Q (.ref l) (upd H l (.lst ys))
def rLenQ (K : PySem.W.Frag) : List V → Hp → VK → Prop := fun xs H Q => ∃ p ys, xs = [V.ref p] ∧ (SqL K H p ys ∨ SqT K H p ys) ∧ Q (V.int (ys.length : Nat)) H
def rMin2 : List V → Hp → VK → Prop := fun xs H Q => ∃ i j, xs = [.int i, .int j] ∧ Q (.int (if j < i then j else i)) H
def rMax2 : List V → Hp → VK → Prop := fun xs H Q => ∃ i j, xs = [.int i, .int j] ∧ Q (.int (if j > i then j else i)) H
/-- repr(x) of data at any depth, of a text, a number, None too -/
def rReprA (K : PySem.W.Frag) : List V → Hp → VK → Prop := fun xs H Q => ∃ (v : V) (d : PyData) (n k : Nat), xs = [v] ∧ Dp K H v d ∧ Sm n k d ∧ n ≤ 1048576 ∧ k ≤ 60 ∧ Q (.str d.shown) H
theorem call_reprA {X : Cx} {j : Nat} (gd : X.A.guards = some []) (hr : Room j X.A) : CallR X (.builtin "repr") (rReprA X.K) := by
  intro pins s σ H xs us Q I r hyp
  obtain ⟨v, d, n, k, rfl, dp, sm, hn, hk, q⟩ := hyp
  obtain ⟨u, rfl, rx⟩ := vals1 r
  cases dp with
  | non =>
    cases rx
    exact PySem.P.repr_of_none ⟨.str "None", H, I.tok _, ⟨_, rfl⟩, q⟩
  | bl b =>
    cases rx
    cases b
    · exact PySem.P.repr_of_bool ⟨.str (PyData.shown (.bool false)), H, I.tok _, ⟨_, rfl⟩, q⟩
    · exact PySem.P.repr_of_bool ⟨.str (PyData.shown (.bool true)), H, I.tok _, ⟨_, rfl⟩, q⟩
  | int i =>
    obtain ⟨t, rfl⟩ := rx
    exact PySem.P.repr_of_int (of_decide_eq_true sm.sh) ⟨.str (PyData.shown (.int i)), H, I.tok _, ⟨_, rfl⟩, q⟩
  | str x =>
    obtain ⟨t, rfl⟩ := rx
    exact PySem.P.repr_of_str ⟨.str (PyData.shown (.str x)), H, I.tok _, ⟨_, rfl⟩, q⟩ (sm.fits hn)
  | lst h t => exact call_repr gd hr pins s σ H _ _ Q I r ⟨_, _, rfl, .lst h t, sm.sh, sm.nd, Nat.le_trans sm.dp hk, sm.fits hn, q⟩
  | tup h t => exact call_repr gd hr pins s σ H _ _ Q I r ⟨_, _, rfl, .tup h t, sm.sh, sm.nd, Nat.le_trans sm.dp hk, sm.fits hn, q⟩
theorem SmA.le {n k n' k' : Nat} {ds : List PyData} (h : SmA n k ds) (hn : n ≤ n') (hk : k ≤ k') : SmA n' k' ds := ⟨h.sh, h.ls, h.nd, Nat.le_trans h.dp hk, Nat.le_trans h.bk hn⟩
theorem Sm.le {n k n' k' : Nat} {d : PyData} (h : Sm n k d) (hn : n ≤ n') (hk : k ≤ k') : Sm n' k' d := ⟨h.sh, h.ls, h.nd, Nat.le_trans h.dp hk, Nat.le_trans h.bk hn⟩
theorem sm_sh {y : Str} {j : Nat} (h : Sh j y) : Sm j 0 (.str y) := by
  refine Sm.str ?_ ?_
  · rw [List.all_eq_true]
    intro c hc
    exact decide_eq_true (Nat.lt_trans (h.1 c hc) (by decide))
  · have : y.cps.size = (tl y).length := Array.length_toList.symm
    rw [this]
    exact h.2
theorem sm_all {n k : Nat} : ∀ (ds : List PyData), (∀ d ∈ ds, Sm n k d) → SmA ((n + 1) * ds.length) k ds
  | [], _ => ⟨rfl, rfl, rfl, Nat.zero_le _, Nat.zero_le _⟩
  | d :: ds, h => by
    have a := SmA.cons (h d List.mem_cons_self) (sm_all ds fun e he => h e (List.mem_cons_of_mem _ he))
    refine a.le ?_ (by omega)
    rw [List.length_cons, Nat.mul_succ]
    omega
theorem sm_map {α : Type} {n k m : Nat} {f : α → PyData} (xs : List α) (h : ∀ x ∈ xs, Sm n k (f x)) (hl : xs.length ≤ m) : SmA ((n + 1) * m) k (xs.map f) := by
  refine (sm_all (n := n) (xs.map f) fun d hd => ?_).le ?_ (Nat.le_refl _)
  · obtain ⟨x, hx, rfl⟩ := List.mem_map.mp hd
    exact h x hx
  · rw [List.length_map]
    exact Nat.mul_le_mul_left _ hl
theorem Sm.non : Sm 0 0 .none := ⟨rfl, by decide, rfl, Nat.le_refl _, Nat.le_refl _⟩
theorem lc_in {wi : TI} {g : TG} {tt : TT} {te : TE} {own : List Nat} {σ : L2.St} {H : Hp} {Q : VK} (h : wi σ H fun J H1 => tLc (fun _ H R => R J H) g tt te own σ H1 Q) : tLc wi g tt te own σ H Q := h
theorem asgE_go {te : TE} {g : TG} {D : Ends} {σ : L2.St} {H : Hp} (h : te σ H fun v H1 => g v σ H1 D.nx) : tAsg te g D σ H := h
theorem op_go {r : R2} {ta tb : TE} {σ : L2.St} {H : Hp} {Q : VK} (h : ta σ H fun x H1 => tb σ H1 fun y H2 => r x y H2 Q) : tOp r ta tb σ H Q := h
theorem cons_go {t : TE} {ts : TA} {σ : L2.St} {H : Hp} {Q : List V → Hp → Prop} (h : t σ H fun v H1 => ts σ H1 fun vs H2 => Q (v :: vs) H2) : tCons t ts σ H Q := h
theorem cB_go {r : List V → Hp → VK → Prop} {t : TA} {σ : L2.St} {H : Hp} {Q : VK} (h : t σ H fun xs H1 => r xs H1 Q) : tCB r t σ H Q := h
theorem ret_go {te : TE} {D : Ends} {σ : L2.St} {H : Hp} (h : te σ H D.rt) : tRet te D σ H := h
theorem ifS_go {te : TT} {a b : TS} {D : Ends} {σ : L2.St} {H : Hp} (h : te σ H fun c H1 => if c = true then a D σ H1 else b D σ H1) : tIfS te a b D σ H := h
theorem test_go {te : TE} {σ : L2.St} {H : Hp} {Q : Bool → Hp → Prop} (h : te σ H fun x H1 => ∃ c, x = .bl c ∧ Q c H1) : tTest te σ H Q := h
theorem var_go {i : Nat} {v : V} {σ : L2.St} {H : Hp} {Q : VK} (e : σ[i]? = some (some v)) (h : Q v H) : tVar i σ H Q := ⟨v, e, h⟩
theorem call_go {sp : Sp} {dvs : List V} {E : XK} {t : TA} {σ : L2.St} {H : Hp} {Q : VK} (h : t σ H fun vs H1 => sp (vs ++ dvs) H1 Q E) : tCall sp dvs E t σ H Q := h
end Pb

namespace Pb
open PySem PySem.Spec PyProof.Rows L2 TL
def top (i : Nat) : Stmt := PySem.Challenge.pw_pathbook_k05_what_books_tell.main.body.getD i (.Pass ⟨0, 0, 0, 0⟩)
/-! ### the draw -/
abbrev sBegin : Stmt := top 19
abbrev sMixed : Stmt := top 20
abbrev sNext : Stmt := top 21
theorem scBegin : FnScope ["_law_script"] ["_law_script"] (defScope sBegin) := ⟨rfl, rfl, rfl, by decide +kernel, rfl, by decide +kernel, by decide +kernel⟩
theorem scMixed : FnScope ["_law_cell", "_law_k", "_law_number"] ["_law_cell", "_law_k"] (defScope sMixed) := ⟨rfl, rfl, rfl, by decide +kernel, rfl, by decide +kernel, by decide +kernel⟩
theorem scNext : FnScope ["_law_draw", "_law_many", "_law_found", "_law_cells", "_law_cell"] ["_law_draw", "_law_many"] (defScope sNext) := ⟨rfl, rfl, rfl, by decide +kernel, rfl, by decide +kernel, by decide +kernel⟩
section
variable {P : Program} {w : World} {K : PySem.W.Frag} {mg : Str → Option Value} {base : Heap} {f : Addr} {fd : FuncData}
theorem ok_mixed (F : FnP K "_law_mixed" sMixed f fd) : FnOk P w K mg base CX0 1 f fd ["_law_cell", "_law_k"] spMixed := by
  refine F.ok scMixed (fun vs H Q E h => ?_) (fun cdv A outer s H vs Q E hr h => ?_)
  · obtain ⟨c, k, rfl, _⟩ := h
    rfl
  · obtain ⟨c, k, rfl, h0, h1, q⟩ := h
    refine ⟨_, PSs.nox (pss_cons (ps_set (i := 2) scMixed.nd rfl (.inl rfl) (pe_op op_mod (pe_op op_add (pe_op op_add (pe_op op_add (pe_op op_mod (pv 0) pe_int)
        (pe_op op_mul (pe_op op_mul pe_int (pv 1)) (pv 1))) (pe_op op_mul pe_int (pv 1))) pe_int) pe_int))
      (pss_cons (ps_set (i := 2) scMixed.nd rfl (.inl rfl) (pe_op op_mod (pe_op op_mul (pe_op op_mod (pe_op op_mul (pv 2) (pv 2)) pe_int) (pv 2)) pe_int))
      (pss_one (ps_ret (pe_op op_fdiv (pe_op op_mod (pe_op op_mul (pv 2) (pe_op op_add pe_int (pe_op op_mul pe_int (pe_op op_mod (pv 1) pe_int)))) pe_int) pe_int))))), ?_⟩
    refine ⟨_, rfl, _, _, rfl, rfl, dv _, _, rfl, _, _, rfl, rfl, .inl ⟨by decide, by decide⟩, _, rfl, _, _, rfl, rfl, .inr ⟨by omega, by omega⟩, _, _, rfl, rfl, ?_⟩
    refine ⟨_, rfl, _, _, rfl, rfl, .inl ⟨by decide, by decide⟩, _, _, rfl, rfl, _, _, rfl, rfl, _, _, rfl, rfl, dv _, ?_⟩
    generalize (c % 1000000007 + 7919 * k * k + 31 * k + 7) = z
    have z0 : 0 ≤ z % 2147483647 := Int.emod_nonneg _ (by decide)
    have z1 : z % 2147483647 < 2147483647 := Int.emod_lt_of_pos _ (by decide)
    generalize z % 2147483647 = y at z0 z1
    refine ⟨_, rfl, _, rfl, _, _, rfl, rfl, .inl ⟨by omega, by omega⟩, _, _, rfl, rfl, dv _, _, rfl, _, _, rfl, rfl, .inr ⟨by omega, by omega⟩, _, _, rfl, rfl, dv _, ?_⟩
    generalize y * y % 2147483647 * y = x
    have x0 : 0 ≤ x % 2147483629 := Int.emod_nonneg _ (by decide)
    have x1 : x % 2147483629 < 2147483629 := Int.emod_lt_of_pos _ (by decide)
    generalize x % 2147483629 = u at x0 x1
    refine ⟨_, rfl, _, rfl, _, _, rfl, rfl, dv _, _, _, rfl, rfl, .inl ⟨by decide, by decide⟩, _, _, rfl, rfl, _, _, rfl, rfl, .inl ⟨by omega, by omega⟩, _, _, rfl, rfl, dv _, _, _, rfl, rfl, ⟨by decide, by decide⟩, ?_⟩
    exact q _

theorem ok_next {fM : Addr} {fdM : FuncData} (F : FnP K "_law_next" sNext f fd) (FM : FnP K "_law_mixed" sMixed fM fdM) (gM : mg "_law_mixed" = some (.ref fM)) (gl : mg "len" = none) :
    FnOk P w K mg base CX0 2 f fd ["_law_draw", "_law_many"] spNext := by
  have GM : FnOk P w K mg base CX0 1 fM fdM ["_law_cell", "_law_k"] spMixed := ok_mixed FM
  have bM : Binds K fdM ["_law_cell", "_law_k"] [] := FM.bindsN fun _ _ _ _ _ _ us hl => match us, hl with | [_, _], _ => rfl
  refine F.ok scNext (fun vs H Q E h => ?_) (fun cdv A outer s H vs Q E hr h => ?_)
  · obtain ⟨d, m, n, rfl, _⟩ := h
    rfl
  · obtain ⟨d, m, n, rfl, ⟨c, a, l, u, cells, hd, hc, hne, hlen, a0, a1, u0, u1⟩, m0, m1, hn, q⟩ := h
    have hu := hu_of hr
    refine ⟨_, PSs.nox (pss_cons (ps_if (pt_cmpR op_gt (pe_dget hu (pv 0) pe_str (fun _ _ => rfl)) pe_int (nomark _))
        (pss_cons (ps_set (i := 2) scNext.nd rfl (.inl rfl) (pe_op op_mod (pe_dget hu (pv 0) pe_str (fun _ _ => rfl)) (pv 1)))
          (pss_cons (ps_dput hu (pv 0) pe_str (pe_op op_fdiv (pe_dget hu (pv 0) pe_str (fun _ _ => rfl)) (pv 1)) rfl) (pss_one (ps_ret (pv 2))))) pss_nil)
      (pss_cons (ps_set (i := 3) scNext.nd rfl (.inl rfl) (pe_dget hu (pv 0) pe_str (fun _ _ => rfl)))
      (pss_cons (ps_set (i := 4) scNext.nd rfl (.inl rfl) (pe_ix ix_list (pv 3) (pe_op op_mod (pe_dget hu (pv 0) pe_str (fun _ _ => rfl)) (pe_callB call_len_seq (by rfl) gl PySem.boot_len (pa_cons (pv 3) pa_nil))) (fun _ _ => rfl)))
      (pss_cons (ps_dput hu (pv 0) pe_str (pe_op op_add (pe_dget hu (pv 0) pe_str (fun _ _ => rfl)) pe_int) rfl)
      (pss_cons (ps_if (pw_and (pt_cmpR op_ge (pv 4) (pe_op op_pow pe_int pe_int) (nomark _)) (pw_and1 (pt_cmpR op_le (pe_dget hu (pv 0) pe_str (fun _ _ => rfl)) (pe_callB call_len_seq (by rfl) gl PySem.boot_len (pa_cons (pv 3) pa_nil)) (nomark _)))).pt
        (pss_cons (ps_dput hu (pv 0) pe_str (pe_op op_fdiv (pv 4) (pv 1)) rfl) (pss_one (ps_ret (pe_op op_mod (pv 4) (pv 1))))) pss_nil)
      (pss_cons (ps_dput hu (pv 0) pe_str (pe_op op_add (pe_dget hu (pv 0) pe_str (fun _ _ => rfl)) pe_int) rfl)
      (pss_one (ps_ret (pe_op op_mod (pe_call GM hr rfl gM FM.kp bM .nil pass0 (pa_cons (pe_call GM hr rfl gM FM.kp bM .nil pass0 (pa_cons (pv 4) (pa_cons (pe_dget hu (pv 0) pe_str (fun _ _ => rfl)) pa_nil))) (pa_cons (pe_dget hu (pv 0) pe_str (fun _ _ => rfl)) pa_nil))) (pv 1)))))))))), ?_⟩
    refine ⟨_, rfl, d, .int l, rfl, DGet.k (k := .inr "left") hd, _, _, rfl, rfl, _, rfl, ite2 (fun hl => ?_) (fun hl => ?_)⟩
    · refine ⟨_, rfl, d, .int l, rfl, DGet.k (k := .inr "left") hd, _, rfl, _, _, rfl, rfl, dv _ m0, ?_⟩
      refine ⟨_, rfl, d, .int l, rfl, DGet.k (k := .inr "left") hd, _, rfl, _, _, rfl, rfl, ⟨m0, m1⟩, _, rfl, d, _, rfl, DPut.k (k := .inr "left") hd (dr_len ..), ?_⟩
      refine ⟨_, rfl, q _ _ (Int.emod_nonneg _ (by omega)) (Int.emod_lt_of_pos _ m0) ⟨c, a, l / m, u, cells, ?_, ?_, hne, hlen, a0, by omega, u0, by omega⟩ fun b hb => upd_ne hb⟩
      · rw [upd_same, dp_left]
      · rw [upd_ne (ne_of hc hd (by intro z; cases z))]
        exact hc
    · have hcl : SqL K H c (cells.map V.int) := .of hc
      have hpos : 0 < cells.length := List.length_pos_iff.mpr hne
      have e0 : 0 ≤ a % (cells.length : Int) := Int.emod_nonneg _ (by omega)
      have e1 : a % (cells.length : Int) < cells.length := Int.emod_lt_of_pos _ (by omega)
      obtain ⟨j, ej⟩ : ∃ j : Nat, a % (cells.length : Int) = (j : Int) := ⟨_, (Int.toNat_of_nonneg e0).symm⟩
      have hj : j < cells.length := by omega
      have gj : atI (cells.map V.int) (a % ((cells.map V.int).length : Int)) = some (.int cells[j]) := by
        rw [List.length_map, ej]
        exact atI_nat (by rw [List.getElem?_map, List.getElem?_eq_getElem hj]; rfl)
      refine ⟨_, rfl, d, .ref c, rfl, DGet.k (k := .inr "cells") hd, ?_⟩
      refine ⟨_, rfl, _, rfl, d, .int a, rfl, DGet.k (k := .inr "at") hd, _, rfl, c, _, rfl, .inl hcl, _, _, rfl, rfl, dv _ (by rw [List.length_map]; omega), c, _, _, _, rfl, rfl, hcl, gj, ?_⟩
      generalize cells[j] = cell
      have h1d : (upd H d (.dK (drV c (a + 1) l u))) d = some (.dK (drV c (a + 1) l u)) := upd_same
      have h1c : (upd H d (.dK (drV c (a + 1) l u))) c = some (.lst (cells.map V.int)) := by
        rw [upd_ne (ne_of hc hd (by intro z; cases z))]
        exact hc
      refine ⟨_, rfl, d, .int a, rfl, DGet.k (k := .inr "at") hd, _, _, rfl, rfl, _, rfl, d, _, rfl, DPut.k (k := .inr "at") hd (dr_len ..), ?_⟩
      rw [dp_at]
      generalize hH : upd H d (.dK (drV c (a + 1) l u)) = H1 at h1d h1c
      have b1 : But d H H1 := fun b hb => by
        rw [← hH]
        exact upd_ne hb
      refine ⟨_, rfl, _, _, rfl, rfl, ⟨by decide, by decide, by decide⟩, _, _, rfl, rfl, _, rfl, ?_⟩
      have rest : ∀ D : Ends, D.rt = Q → (tSeq (sDPut (tVar 0) (tC (.str "used")) (tOp (rI0 fun i j => .int (i + j)) (tDGet (tVar 0) (tC (.str "used"))) (tC (.int 1))))
          (tRet (tOp (rI (fun _ j => 0 < j) fun i j => .int (i % j)) (tCall spMixed [] E0 (tCons (tCall spMixed [] E0 (tCons (tVar 4) (tCons (tDGet (tVar 0) (tC (.str "at"))) tNil))) (tCons (tDGet (tVar 0) (tC (.str "used"))) tNil))) (tVar 1)))) D
          [some (.ref d), some (.int m), none, some (.ref c), some (.int cell)] H1 := fun D eD => by
        refine ⟨_, rfl, d, .int u, rfl, DGet.k (k := .inr "used") h1d, _, _, rfl, rfl, _, rfl, d, _, rfl, DPut.k (k := .inr "used") h1d (dr_len ..), ?_⟩
        rw [dp_used]
        have h2d : (upd H1 d (.dK (drV c (a + 1) l (u + 1)))) d = some (.dK (drV c (a + 1) l (u + 1))) := upd_same
        refine ⟨_, rfl, _, rfl, d, .int (a + 1), rfl, DGet.k (k := .inr "at") h2d, _, _, rfl, by omega, by omega, fun v => ?_⟩
        refine ⟨_, rfl, d, .int (u + 1), rfl, DGet.k (k := .inr "used") h2d, _, _, rfl, by omega, by omega, fun v => ?_⟩
        refine ⟨_, rfl, _, _, rfl, rfl, dv _ m0, ?_⟩
        rw [eD]
        refine q _ _ (Int.emod_nonneg _ (by omega)) (Int.emod_lt_of_pos _ m0) ⟨c, a + 1, l, u + 1, cells, h2d, ?_, hne, hlen, by omega, by omega, by omega, by omega⟩ fun b hb => ?_
        · rw [upd_ne (ne_of h1c h1d (by intro z; cases z))]
          exact h1c
        · rw [upd_ne hb]
          exact b1 b hb
      refine ite2 (fun hA => ?_) (fun hA => ?_)
      · refine ⟨_, rfl, d, .int (a + 1), rfl, DGet.k (k := .inr "at") h1d, _, rfl, c, _, rfl, .inl (.of h1c), _, _, rfl, rfl, _, rfl, ite2 (fun hB => ?_) (fun hB => ?_)⟩
        · refine ⟨_, rfl, _, rfl, _, _, rfl, rfl, ⟨m0, m1⟩, _, rfl, d, _, rfl, DPut.k (k := .inr "left") h1d (dr_len ..), ?_⟩
          refine ⟨_, rfl, _, rfl, _, _, rfl, rfl, dv _ m0, q _ _ (Int.emod_nonneg _ (by omega)) (Int.emod_lt_of_pos _ m0) ⟨c, a + 1, cell / m, u, cells, ?_, ?_, hne, hlen, by omega, by omega, u0, by omega⟩ fun b hb => ?_⟩
          · rw [upd_same, dp_left]
          · rw [upd_ne (ne_of h1c h1d (by intro z; cases z))]
            exact h1c
          · rw [upd_ne hb]
            exact b1 b hb
        · exact rest _ rfl
      · exact iteF (rest _ rfl)
theorem ok_begin (F : FnP K "_law_begin" sBegin f fd) : FnOk P w K mg base CX0 1 f fd ["_law_script"] (spBegin K) := by
  refine F.ok scBegin (fun vs H Q E h => ?_) (fun cdv A outer s H vs Q E hr h => ?_)
  · obtain ⟨a, ns, rfl, _⟩ := h
    rfl
  · obtain ⟨a, ns, rfl, hS, hlen, q⟩ := h
    refine ⟨_, PSs.nox (pss_one (ps_ret (pe_disp (pps_cons pe_str (pe_op op_catS (pv 0) (pe_lst (pa_cons pe_int pa_nil))) (pps_cons pe_str pe_int (pps_cons pe_str pe_int (pps_cons pe_str pe_int pps_nil)))) (by rfl) (by rfl) (fun z => by cases z) (by decide)))), ?_⟩
    refine fun d nd => ⟨_, rfl, (by decide), fun z nz => ?_⟩
    have dz : z ≠ d := fun e => by
      rw [e, upd_same] at nz
      cases nz
    have nz0 : H z = none := by
      rw [upd_ne dz] at nz
      exact nz
    have hA : SqL K (upd (upd H d (.dK [])) z (.lst [.int 0])) a (ns.map V.int) := (same_upd nz).seq ((same_upd nd).seq hS)
    refine ⟨a, z, _, _, rfl, rfl, hA, .of upd_same, ?_, fun c nc => ?_⟩
    · rw [List.length_map]
      exact Nat.le_of_lt (small1000 (by show ns.length + 1 ≤ 1000; omega))
    have cz : c ≠ z := fun e => by
      rw [e, upd_same] at nc
      cases nc
    have nc1 : upd H d (.dK []) c = none := by
      rw [upd_ne cz] at nc
      exact nc
    have cd : c ≠ d := fun e => by
      rw [e, upd_same] at nc1
      cases nc1
    have nc0 : H c = none := by
      rw [upd_ne cd] at nc1
      exact nc1
    refine ⟨?_, [(.inr "cells", .ref c), (.inr "at", .int 0), (.inr "left", .int 0), (.inr "used", .int 0)], rfl, (by show 4 ≤ 15; decide), ?_⟩
    · rw [upd_ne cd.symm, upd_ne dz.symm, upd_same]
    · refine q _ d c nc0 nd ⟨c, 0, 0, 0, ns ++ [0], ?_, ?_, ?_, ?_, by decide, by decide, by decide, by decide⟩ fun b hc hd hb => ?_
      · rw [upd_same]
        rfl
      · rw [upd_ne cd, upd_same, List.map_append]
        rfl
      · simp
      · rw [List.length_append]
        show ns.length + 1 ≤ 100
        omega
      · have bz : b ≠ z := fun e => hb (by rw [e]; exact nz0)
        rw [upd_ne hd, upd_ne hc, upd_ne bz, upd_ne hd]
end
section
variable {P : Program} {w : World} {K : PySem.W.Frag} {mg : Str → Option Value} {base : Heap}
theorem kn_begin (D : Df K mg "_law_begin" sBegin) : Kn P w K mg base "_law_begin" 1 ["_law_script"] (spBegin K) := by
  obtain ⟨f, fd, F, g⟩ := D
  exact ⟨f, fd, F.kp, g, F.bindsN fun _ _ _ _ _ _ us hl => match us, hl with | [_], _ => rfl, .of (ok_begin F)⟩
theorem kn_next (D : Df K mg "_law_next" sNext) (M : Df K mg "_law_mixed" sMixed) (B : BG mg) : Kn P w K mg base "_law_next" 2 ["_law_draw", "_law_many"] spNext := by
  obtain ⟨f, fd, F, g⟩ := D
  obtain ⟨f2, fd2, F2, g2⟩ := M
  exact ⟨f, fd, F.kp, g, F.bindsN fun _ _ _ _ _ _ us hl => match us, hl with | [_, _], _ => rfl, .of (ok_next F F2 g2 B.len)⟩
end
end Pb

namespace Pb
open PySem PySem.Spec PyProof.Rows L2 TL
/-! ### comprehensions that draw -/
inductive Sel {α β : Type} (S : Prop) (R : α → β → Prop) : List α → List β → Prop
  | nil : Sel S R [] []
  | skip {xs : List α} {ds : List β} {a : α} (s : S) (h : Sel S R xs ds) : Sel S R (xs ++ [a]) ds
  | take {xs : List α} {ds : List β} {a : α} {d : β} (r : R a d) (h : Sel S R xs ds) : Sel S R (xs ++ [a]) (ds ++ [d])
section
variable {α β : Type} {S : Prop} {R : α → β → Prop} {xs : List α} {ds : List β}
theorem Sel.le (h : Sel S R xs ds) : ds.length ≤ xs.length := by
  induction h with
  | nil => exact Nat.le_refl _
  | skip s h ih =>
    rw [List.length_append]
    omega
  | take r h ih =>
    rw [List.length_append, List.length_append]
    simp
    exact ih
theorem Sel.len (h : Sel S R xs ds) (n : ¬ S) : ds.length = xs.length := by
  induction h with
  | nil => rfl
  | skip s h ih => exact absurd s n
  | take r h ih =>
    rw [List.length_append, List.length_append, ih]
    rfl
theorem Sel.all (h : Sel S R xs ds) : ∀ d ∈ ds, ∃ a ∈ xs, R a d := by
  induction h with
  | nil => intro d hd; cases hd
  | skip s h ih =>
    intro d hd
    obtain ⟨a, ha, r⟩ := ih d hd
    exact ⟨a, List.mem_append_left _ ha, r⟩
  | take r h ih =>
    intro d hd
    rcases List.mem_append.mp hd with z | z
    · obtain ⟨a, ha, r⟩ := ih d z
      exact ⟨a, List.mem_append_left _ ha, r⟩
    · rw [List.mem_singleton.mp z]
      exact ⟨_, List.mem_append_right _ (List.mem_singleton.mpr rfl), r⟩
theorem Sel.choose (h : Sel S R xs ds) (n : ¬ S) {γ : Type} {f : γ → β} {g : γ → α} {C : γ → Prop} (w : ∀ a d, R a d → ∃ c, f c = d ∧ g c = a ∧ C c) : ∃ cs : List γ, ds = cs.map f ∧ xs = cs.map g ∧ ∀ c ∈ cs, C c := by
  induction h with
  | nil => exact ⟨[], rfl, rfl, fun _ z => nomatch z⟩
  | skip s h ih => exact absurd s n
  | take r h ih =>
    obtain ⟨cs, e1, e2, e3⟩ := ih
    obtain ⟨c, h1, h2, h3⟩ := w _ _ r
    refine ⟨cs ++ [c], by rw [e1, List.map_append, ← h1]; rfl, by rw [e2, List.map_append, ← h2]; rfl, fun z hz => ?_⟩
    rcases List.mem_append.mp hz with y | y
    · exact e3 z y
    · rw [List.mem_singleton.mp y]
      exact h3
theorem Sel.pick (h : Sel S R xs ds) {γ : Type} {f : γ → β} {C : γ → Prop} (w : ∀ a ∈ xs, ∀ d, R a d → ∃ c, f c = d ∧ C c) : ∃ cs : List γ, ds = cs.map f ∧ (∀ c ∈ cs, C c) ∧ cs.length ≤ xs.length := by
  induction h with
  | nil => exact ⟨[], rfl, (fun _ z => nomatch z), Nat.le_refl _⟩
  | skip s h ih =>
    obtain ⟨cs, e1, e2, e3⟩ := ih fun a ha => w a (List.mem_append_left _ ha)
    exact ⟨cs, e1, e2, by rw [List.length_append]; omega⟩
  | take r h ih =>
    obtain ⟨cs, e1, e2, e3⟩ := ih fun a ha => w a (List.mem_append_left _ ha)
    obtain ⟨c, h1, h2⟩ := w _ (List.mem_append_right _ (List.mem_singleton.mpr rfl)) _ r
    refine ⟨cs ++ [c], by rw [e1, List.map_append, ← h1]; rfl, fun z hz => ?_, by rw [List.length_append, List.length_append]; simp; exact e3⟩
    rcases List.mem_append.mp hz with y | y
    · exact e2 z y
    · rw [List.mem_singleton.mp y]
      exact h2
end
theorem dtAll_nint {H : Hp} : ∀ {vs : List V} {ds : List PyData}, DtAll H vs ds → (∀ d ∈ ds, ∀ i, d ≠ .int i) → ∀ x ∈ vs, ∀ i, x ≠ .int i
  | _, _, .nil, _, x, hx, _ => nomatch hx
  | _, _, .cons (v := v) (d := d) a b, h, x, hx, i => by
    rcases List.mem_cons.mp hx with z | z
    · rw [z]
      intro e
      rw [e] at a
      cases a
      exact h _ List.mem_cons_self i rfl
    · exact dtAll_nint b (fun d hd => h d (List.mem_cons_of_mem _ hd)) x z i
theorem lc_genD {J : It} {n c m : Nat} {d : Addr} {G : Hp → Prop} {Y : Nat → Hp → V → Hp → Prop} (W : Walk J n G Y) {α : Type} {xs : List α} {f : α → PyData} {R : α → PyData → Prop} {S : Prop} {g : TG} {tt : TT} {te : TE} {own : List Nat} {σ : L2.St} {H : Hp} {Q : VK} (hn : xs.length = n) (hs : n ≤ 20000) (dr : Dr H d m) (hG : ∀ H1, Kp d H H1 → G H1)
    (hY : ∀ i a H1 x H2, xs[i]? = some a → Kp d H H1 → Y i H1 x H2 → Same H1 H2 ∧ Dt H2 x (f a)) (ni : ∀ a e, R a e → ∀ i, e ≠ .int i)
    (turn : ∀ (k : Nat) (a : α) (x : V) (H1 : Hp) (N1 : V → Hp → Prop) (N0 : Hp → Prop), xs[k]? = some a → Kp d H H1 → Dr H1 d (m + c * k) → Dt H1 x (f a) → (∀ y e H4, Kp d H1 H4 → Dr H4 d (m + c * (k + 1)) → R a e → Dt H4 y e → N1 y H4) → (∀ H3, S → Kp d H1 H3 → Dr H3 d (m + c * (k + 1)) → N0 H3) →
      g x (wipe σ own) H1 fun σ2 H2 => wipe σ2 own = wipe σ own ∧ tt σ2 H2 fun b H3 => if b = true then te σ2 H3 fun y H4 => N1 y H4 else N0 H3)
    (q : ∀ H' D ds, Kp d H H' → H D = none → Dr H' d (m + c * n) → LD H' D ds → Sel S R xs ds → Q (.ref D) H') : tLc (fun _ H R => R J H) g tt te own σ H Q := by
  intro D nD
  have dD : D ≠ d := dr.elim fun _ h => by
    obtain ⟨a, l, u, cells, e, _⟩ := h
    exact (ne_none e nD).symm
  refine lc_it W (fun k H' => ∃ ds, Kp d H H' ∧ Dr H' d (m + c * k) ∧ LD H' D ds ∧ Sel S R (xs.take k) ds) ⟨[], Same.kp (same_upd nD), dr.same (same_upd nD), ⟨[], upd_same, .nil⟩, .nil⟩ (fun i H1 _ pv => hG H1 (by obtain ⟨_, k, _⟩ := pv; exact k)) (fun i x Ha Hb hi pv y => ?_) fun H' pv => ?_
  · obtain ⟨ds, kp, drk, ⟨vs, eD, t⟩, sel⟩ := pv
    have lt : i < xs.length := by omega
    have ga := List.getElem?_eq_getElem lt
    obtain ⟨s1, dx⟩ := hY i _ Ha x Hb ga kp y
    generalize xs[i] = a at ga dx
    have tk : xs.take (i + 1) = xs.take i ++ [a] := by
      rw [List.take_add_one, ga]
      rfl
    have sv : vs.length < sizeLine := by
      have l1 := t.len
      have l2 := sel.le
      rw [List.length_take] at l2
      exact len20k (by omega)
    have drb := drk.same s1
    refine turn i a x Hb _ _ ga (kp.trans (Same.kp s1)) drb dx (fun y e H4 k4 d4 r dy => ?_) (fun H3 ss k3 d3 => ?_)
    · have e4 := k4.lst drb (s1 _ _ eD)
      have t4 := t.tk ((Same.tk s1).trans (k4.tk drb))
      refine ⟨vs, e4, sv, ds ++ [e], fun b o nb eb => ?_, d4.updL e4 (dtAll_nint t4 fun z hz => ?_), LD.push e4 t4 dy, ?_⟩
      · rw [upd_ne (ne_none eb nD)]
        exact k4 b o nb (s1 _ _ (kp b o nb eb))
      · obtain ⟨a', _, r'⟩ := sel.all z hz
        exact ni a' z r'
      · rw [tk]
        exact .take r sel
    · refine ⟨ds, kp.trans ((Same.kp s1).trans k3), d3, ⟨vs, k3.lst drb (s1 _ _ eD), t.tk ((Same.tk s1).trans (k3.tk drb))⟩, ?_⟩
      rw [tk]
      exact .skip ss sel
  · obtain ⟨ds, kp, drk, l, sel⟩ := pv
    rw [← hn, List.take_length] at sel
    exact q H' D ds kp nD drk l sel
end Pb

namespace Pb
open PySem PySem.Spec PyProof.Rows L2 TL
/-! ### names -/
def rAddS : R2 := fun x y H Q => ∃ i j, x = .str i ∧ y = .str j ∧ i.length + j.length ≤ sizeLine ∧ Q (.str (i ++ j)) H
def ltr : Str := "abcdefghijklmnopqrstuvwxyz"
def Lw (c : Nat) : Prop := 97 ≤ c ∧ c ≤ 122
theorem ltr_lw : ∀ c ∈ ltr.cps.toList, Lw c := by
  have : ∀ c ∈ ltr.cps.toList, 97 ≤ c ∧ c ≤ 122 := by decide +kernel
  exact this
def Nm (z : Str) : Prop := (∀ c ∈ tl z, Lw c) ∧ 1 ≤ (tl z).length ∧ (tl z).length ≤ 8
theorem Nm.sh {z : Str} (h : Nm z) : Sh 8 z := ⟨fun c hc => by have := (h.1 c hc).2; omega, h.2.2⟩
def lt (i : Nat) : Nat := ltr.cps.toList.getD i 0
theorem at_ltr {v : Int} {i : Nat} (h : v = (i : Nat)) (hi : i < 26) : atI ltr.cps.toList v = some (lt i) := by
  subst h
  have hl : ltr.cps.toList.length = 26 := by decide +kernel
  refine atI_nat ?_
  unfold lt
  rw [List.getD_eq_getElem?_getD, List.getElem?_eq_getElem (by omega)]
  rfl
def two (k : Nat) : Str := ofL [lt (k / 26), lt (k % 26)]
def rest676 : List Str := (List.range 676).map two
theorem lt_eq : ∀ i, i < 26 → lt i = 97 + i := by decide +kernel
theorem two_nd : rest676.Nodup := by
  unfold rest676
  have inj : ∀ a ∈ List.range 676, ∀ b ∈ List.range 676, two a = two b → a = b := fun a ha b hb e => by
    rw [List.mem_range] at ha hb
    have e1 : tl (two a) = tl (two b) := congrArg tl e
    have e2 : [lt (a / 26), lt (a % 26)] = [lt (b / 26), lt (b % 26)] := e1
    injection e2 with e3 e4
    injection e4 with e5 _
    rw [lt_eq _ (by omega), lt_eq _ (by omega)] at e3 e5
    omega
  unfold List.Nodup
  rw [List.pairwise_map]
  refine List.Pairwise.imp_of_mem (fun {a b} ha hb hab e => hab (inj a ha b hb e)) (List.nodup_range (n := 676))
theorem two_nm {y : Str} (h : y ∈ rest676) : Nm y := by
  obtain ⟨k, hk, rfl⟩ := List.mem_map.mp h
  rw [List.mem_range] at hk
  refine ⟨fun c hc => ?_, ?_, ?_⟩
  · have hc2 : c ∈ [lt (k / 26), lt (k % 26)] := hc
    simp only [List.mem_cons, List.not_mem_nil, or_false] at hc2
    unfold Lw
    rcases hc2 with e | e
    · rw [e, lt_eq _ (by omega)]
      omega
    · rw [e, lt_eq _ (by omega)]
      omega
  · show 1 ≤ [lt (k / 26), lt (k % 26)].length
    simp
  · show [lt (k / 26), lt (k % 26)].length ≤ 8
    simp
theorem filter_len {α : Type} [DecidableEq α] : ∀ (f l : List α), l.Nodup → l.length ≤ (l.filter fun x => !decide (x ∈ f)).length + f.length
  | [], l, _ => by
    have : (l.filter fun x => !decide (x ∈ ([] : List α))) = l := by
      rw [List.filter_eq_self]
      intro a _
      simp
    rw [this]
    exact Nat.le_add_right _ _
  | a :: f, l, nd => by
    have ih := filter_len f (l.filter fun x => !decide (x = a)) (nd.filter _)
    have e : ((l.filter fun x => !decide (x = a)).filter fun x => !decide (x ∈ f)) = l.filter fun x => !decide (x ∈ a :: f) := by
      rw [List.filter_filter]
      refine List.filter_congr fun x _ => ?_
      by_cases h1 : x = a <;> by_cases h2 : x ∈ f <;> simp [h1, h2]
    rw [e] at ih
    have l1 : l.length ≤ (l.filter fun x => !decide (x = a)).length + 1 := by
      clear ih e
      induction l with
      | nil => exact Nat.zero_le _
      | cons b l ihl =>
        obtain ⟨nb, nl⟩ := List.nodup_cons.mp nd
        by_cases hb : b = a
        · subst hb
          have : (l.filter fun x => !decide (x = b)) = l := by
            rw [List.filter_eq_self]
            intro x hx
            have : x ≠ b := fun e => nb (by rw [← e]; exact hx)
            simp [this]
          rw [List.filter_cons, if_neg (by simp), this]
          exact Nat.le_refl _
        · rw [List.filter_cons, if_pos (by simp [hb]), List.length_cons, List.length_cons]
          have := ihl nl
          omega
    rw [List.length_cons]
    omega
def tenW : List Str := ["book", "closed", "walk", "ride", "length", "climb", "days", "sections", "halts", "badge"]
theorem ten_split : Txt.split "book closed walk ride length climb days sections halts badge" " " = tenW := by decide +kernel
theorem ten_nm {y : Str} (h : y ∈ tenW) : Nm y := by
  have : ∀ y ∈ tenW, (y.cps.toList.all fun c => decide (97 ≤ c) && decide (c ≤ 122)) = true ∧ 1 ≤ y.cps.toList.length ∧ y.cps.toList.length ≤ 8 := by decide +kernel
  obtain ⟨h1, h2⟩ := this y h
  refine ⟨fun c hc => ?_, h2⟩
  have z := List.all_eq_true.mp h1 c hc
  rw [Bool.and_eq_true] at z
  exact ⟨of_decide_eq_true z.1, of_decide_eq_true z.2⟩
theorem inV_str {x : Str} {ys : List Str} : inV (.str x) (ys.map V.str) = decide (x ∈ ys) := by
  unfold inV
  induction ys with
  | nil => rfl
  | cons y r ih =>
    rw [List.map_cons, List.any_cons, ih]
    show ((y == x) || decide (x ∈ r)) = decide (x ∈ y :: r)
    by_cases h : y = x
    · subst h
      simp
    · have h2 : (y == x) = false := by simp [h]
      rw [h2]
      have h3 : ¬ x = y := fun e => h e.symm
      simp [h3]
theorem flat_strs (ys : List Str) : (ys.map V.str).all flatV = true := by
  rw [List.all_eq_true]
  intro x hx
  obtain ⟨y, _, rfl⟩ := List.mem_map.mp hx
  rfl
abbrev s_l_names : Stmt := top 22
abbrev n_l_names : List Str := ["_law_draw", "_law_many", "_law_letters", "_law_found", "_law_size", "_law_name", "_law_words", "_law_rest", "_law_k", "_law_one"]
abbrev p_l_names : List Str := ["_law_draw", "_law_many"]
theorem sc_l_names : FnScope n_l_names p_l_names (defScope s_l_names) := ⟨rfl, rfl, rfl, by decide +kernel, rfl, by decide +kernel, by decide +kernel⟩
/-- many unlike names, in a new list -/
def spNames : Sp := fun vs H Q _ => ∃ (d : Addr) (m n : Nat), vs = [.ref d, .int (m : Nat)] ∧ Dr H d n ∧ n < 2 ^ 37 ∧ m ≤ 30 ∧ ∀ (r : Addr) (ys : List Str) (H' : Hp), H r = none → ys.length = m → ys.Nodup → (∀ y ∈ ys, Nm y) → Dr H' d (n + 20 * m) → Kp d H H' → H' r = some (.lst (ys.map V.str)) → Q (.ref r) H'
theorem wiped {σ : L2.St} {i : Nat} {x : Option V} : wipe ((wipe σ [i]).set i x) [i] = wipe σ [i] := by
  show (((σ.set i none).set i _).set i none) = σ.set i none
  rw [List.set_set, List.set_set]
theorem gOwn {σ : L2.St} {i : Nat} {x : V} (h : i < σ.length) : ((wipe σ [i]).set i (some x))[i]? = some (some x) := set_get (by rw [wipe_length]; exact h)
theorem gOth {σ : L2.St} {i j : Nat} {x y : Option V} (h : σ[j]? = some y) (n : i ≠ j) : ((wipe σ [i]).set i x)[j]? = some y := by
  show ((σ.set i none).set i x)[j]? = _
  rw [List.getElem?_set_ne n, List.getElem?_set_ne n]
  exact h
/-- the two-letter texts -/
theorem lc_676 {σ : L2.St} {H : Hp} {Q : VK} (h2 : σ[2]? = some (some (.str ltr))) (h8 : 8 < σ.length) (q : ∀ H' D, Same H H' → H D = none → H' D = some (.lst (rest676.map V.str)) → Q (.ref D) H') : (tLc (iRng1 (tCons (tC (.int 676)) (tNil))) (gName 8) (tYes) (tOp rAddS (tOp rIxS (tVar 2) (tOp (rI CDiv fun i j => .int (i / j)) (tVar 8) (tC (.int 26)))) (tOp rIxS (tVar 2) (tOp (rI (fun _ j => 0 < j) fun i j => .int (i % j)) (tVar 8) (tC (.int 26))))) [8]) σ H Q := by
  refine ⟨676, rfl, by decide, by decide, ?_⟩
  refine lc_rng (n := 676) (p := fun _ => true) (gd := fun k => .str (two k)) (by decide) (fun a x H1 N1 N0 ha sm dx n1 n0 => ⟨wiped, ?_⟩) fun H' D sm nD l => ?_
  · have hk6 : a < 676 := List.mem_range.mp ha
    have e := dx.int'
    subst e
    dsimp only [tYes]
    rw [if_pos rfl]
    have l26 : ltr.length ≤ sizeLine := by decide +kernel
    exact ⟨_, gOth h2 (by decide), _, gOwn h8, _, _, rfl, rfl, ⟨by decide, by decide⟩, ltr, _, lt (a / 26), rfl, rfl, l26, at_ltr (i := a / 26) (by omega) (by omega), _, gOth h2 (by decide), _, gOwn h8, _, _, rfl, rfl, (by show (0 : Int) < 26; decide), ltr, _, lt (a % 26), rfl, rfl, l26, at_ltr (i := a % 26) (by omega) (by omega), _, _, rfl, rfl, (by show 1 + 1 ≤ sizeLine; decide), n1 _ _ (Same.refl _) rfl (.str _)⟩
  · refine q H' D sm nD ?_
    have e : ((List.range 676).filter fun _ => true).map (fun k => PyData.str (two k)) = rest676.map .str := by
      rw [List.filter_eq_self.mpr (fun _ _ => rfl)]
      unfold rest676
      rw [List.map_map]
      rfl
    rw [e] at l
    exact l.strs
/-- those of a list of texts that aren't in another -/
theorem lc_free {K : PySem.W.Frag} {σ : L2.St} {H : Hp} {Q : VK} {p r : Addr} {xs ys : List Str} {i j k : Nat} (h7 : σ[j]? = some (some (.ref p))) (h3 : σ[k]? = some (some (.ref r))) (hi : i < σ.length) (hi3 : i ≠ k) (ep : H p = some (.lst (xs.map V.str))) (er : H r = some (.lst (ys.map V.str))) (hx : xs.length ≤ 1000)
    (q : ∀ H' D, Same H H' → H D = none → H' D = some (.lst ((xs.filter fun x => !decide (x ∈ ys)).map V.str)) → Q (.ref D) H') : tLc (iList K (tVar j)) (gName i) (tTest (tOp (rIn K true) (tVar i) (tVar k))) (tVar i) [i] σ H Q := by
  refine ⟨_, h7, p, rfl, ⟨_, .of ep⟩, ?_⟩
  refine lc_lst (K := K) (p := fun x => !decide (x ∈ ys)) (gd := .str) (f := .str) ep (dtAll_strs xs) (by omega) (fun a x H1 N1 N0 ha sm dx n1 n0 => ⟨wiped, ?_⟩) fun H' D sm nD l => q H' D sm nD l.strs
  have e := dx.str'
  subst e
  refine ⟨_, gOwn hi, _, gOth h3 hi3, r, _, rfl, .inl (.of (sm _ _ er)), rfl, flat_strs ys, _, rfl, ?_⟩
  rw [inV_str]
  show if (!decide (a ∈ ys)) = true then _ else _
  by_cases hc : (!decide (a ∈ ys)) = true
  · rw [if_pos hc]
    exact ⟨_, gOwn hi, n1 _ _ (Same.refl _) hc (.str _)⟩
  · rw [if_neg hc]
    exact n0 _ (Same.refl _) (by simpa using hc)
def lenAt (H : Hp) (r : Addr) : Nat := match H r with
  | some (.lst xs) => xs.length
  | _ => 0
theorem lenAt_of {H : Hp} {r : Addr} {xs : List V} (e : H r = some (.lst xs)) : lenAt H r = xs.length := by
  unfold lenAt
  rw [e]
def t676 : TE := (tLc (iRng1 (tCons (tC (.int 676)) (tNil))) (gName 8) (tYes) (tOp rAddS (tOp rIxS (tVar 2) (tOp (rI CDiv fun i j => .int (i / j)) (tVar 8) (tC (.int 26)))) (tOp rIxS (tVar 2) (tOp (rI (fun _ j => 0 < j) fun i j => .int (i % j)) (tVar 8) (tC (.int 26))))) [8])
def tTailW (K : PySem.W.Frag) : TS := tSeq (tIfS (tTest (tOp (rIn K false) (tVar 5) (tVar 3))) (tSeq (tAsg t676 (gName 7)) (tAsg (tOp (rIxL K) (tLc (iList K (tVar 7)) (gName 9) (tTest (tOp (rIn K true) (tVar 9) (tVar 3))) (tVar 9) [9]) (tCall spNext [] E0 (tCons (tVar 0) (tCons (tC (.int 600)) tNil)))) (gName 5))) tNext) (tDrop (tBM K "list" rAppend (tVar 3) (tCons (tVar 5) tNil)))
theorem tail_names {K : PySem.W.Frag} {D : Ends} {d r : Addr} {m n : Nat} {ys : List Str} {wd : Str} {H Hx : Hp} {y4 y6 y7 : Option V} (hl : ys.length < 30) (hn : n < 2 ^ 38) (nr : H r = none)
    (hD : ∀ (wd' : Str) (y5 y7' : Option V) (H'' : Hp), Nm wd' → wd' ∉ ys → Dr H'' d (n + 1) → Kp d H H'' → H'' r = some (.lst ((ys ++ [wd']).map V.str)) → D.nx [some (.ref d), some (.int (m : Nat)), some (.str ltr), some (.ref r), y4, y5, y6, y7', none, none] H'')
    (sh : Nm wd) (dr : Dr Hx d n) (kp : Kp d H Hx) (er : Hx r = some (.lst (ys.map V.str))) : tTailW K D [some (.ref d), some (.int (m : Nat)), some (.str ltr), some (.ref r), y4, some (.str wd), y6, y7, none, none] Hx := by
  have fin : ∀ (wd' : Str) (y7' : Option V) (H2 : Hp) (D' : Ends), D'.nx = D.nx → Nm wd' → wd' ∉ ys → Dr H2 d (n + 1) → Kp d H H2 → H2 r = some (.lst (ys.map V.str)) → tDrop (tBM K "list" rAppend (tVar 3) (tCons (tVar 5) tNil)) D' [some (.ref d), some (.int (m : Nat)), some (.str ltr), some (.ref r), y4, some (.str wd'), y6, y7', none, none] H2 := fun wd' y7' H2 D' eD sh2 nin dr2 k2 e2 => by
    refine ⟨_, rfl, .inl ⟨rfl, _, .of e2⟩, _, rfl, r, _, _, rfl, rfl, e2, ?_, ?_⟩
    · rw [List.length_map]
      exact len20k (by omega)
    · show D'.nx _ _
      rw [eD]
      refine hD wd' _ _ _ sh2 nin (dr2.updL e2 strs_nint) (fun b o nb e => ?_) ?_
      · rw [upd_ne (ne_none e nr)]
        exact k2 b o nb e
      · rw [upd_same, List.map_append]
        rfl
  refine ⟨_, rfl, _, rfl, r, _, rfl, .inl (.of er), rfl, flat_strs ys, _, rfl, ?_⟩
  rw [inV_str]
  refine ite2 (fun hin => ?_) (fun hin => ?_)
  · refine asg_go (lc_676 (σ := [some (.ref d), some (.int (m : Nat)), some (.str ltr), some (.ref r), y4, some (.str wd), y6, y7, none, none]) rfl (Nat.lt_of_sub_eq_succ rfl) fun H1 p s1 np ep => gName_go ?_)
    refine asgE_go (op_go ?_)
    refine lc_free (K := K) (i := 9) (σ := [some (.ref d), some (.int (m : Nat)), some (.str ltr), some (.ref r), y4, some (.str wd), y6, some (.ref p), none, none]) rfl rfl (Nat.lt_of_sub_eq_succ rfl) (by decide) ep (s1 _ _ er) (by unfold rest676; rw [List.length_map, List.length_range]; decide) fun H2 p2 s2 np2 ep2 => ?_
    have dr2 := dr.same (s1.trans s2)
    refine ⟨_, rfl, d, 600, _, rfl, dr2, by decide, by decide, by omega, fun v H3 h0 h1 dr3 bt => ?_⟩
    have fl := filter_len ys rest676 two_nd
    have l676 : rest676.length = 676 := by unfold rest676; rw [List.length_map, List.length_range]
    obtain ⟨x, hx, hat⟩ := at_list (xs := (rest676.filter fun x => !decide (x ∈ ys)).map V.str) h0 (by rw [List.length_map]; omega)
    obtain ⟨y, hy, rfl⟩ := List.mem_map.mp hx
    refine ⟨p2, _, _, _, rfl, rfl, .of (bt.kp.lst dr2 ep2), hat, ?_⟩
    have hm := List.mem_filter.mp hy
    exact fin y _ H3 _ rfl (two_nm hm.1) (by simpa using hm.2) dr3 (kp.trans ((Same.kp (s1.trans s2)).trans bt.kp)) (bt.kp.lst dr2 (s2 _ _ (s1 _ _ er)))
  · exact fin wd _ Hx _ rfl sh (fun z => hin (decide_eq_true z)) (dr.mono (by omega)) kp er
section
variable {P : Program} {w : World} {K : PySem.W.Frag} {mg : Str → Option Value} {base : Heap}
theorem kn_names (D : Df K mg "_law_names" s_l_names) (B : BG mg) (k_l_next : Kn P w K mg base "_law_next" 2 ["_law_draw", "_law_many"] spNext) : Kn P w K mg base "_law_names" 3 p_l_names spNames := by
  refine D.kn sc_l_names (fun _ _ _ _ _ _ us hl => match us, hl with | [_, _], _ => rfl) (fun vs H Q E h => ?_) (fun f cdv A outer s H vs Q E gd hr h => ?_)
  · obtain ⟨d, m, n, rfl, _⟩ := h
    rfl
  · obtain ⟨d, m, n, rfl, dr, hn, hm, q⟩ := h
    refine ⟨_, PSs.nox (pss_cons (ps_set (i := 2) sc_l_names.nd rfl (.inr rfl) pe_str) (pss_cons (ps_set (i := 3) sc_l_names.nd rfl (.inr rfl) (pe_lst pa_nil)) (pss_cons (ps_while PassesOwn.never (pt_cmpR op_lt (pe_callB call_len_seq rfl B.len PySem.boot_len (pa_cons (pv 3) pa_nil)) (pv 1) (nomark _)) (pss_cons (ps_set (i := 4) sc_l_names.nd rfl (.inl rfl) (pe_ix ix_list (pe_lst (pa_cons (pe_op op_add pe_int (pe_kn k_l_next gd (hr.mono (by decide)) rfl (pa_cons (pv 0) (pa_cons pe_int pa_nil)))) (pa_cons (pe_op op_add pe_int (pe_kn k_l_next gd (hr.mono (by decide)) rfl (pa_cons (pv 0) (pa_cons pe_int pa_nil)))) (pa_cons pe_int pa_nil)))) (pe_kn k_l_next gd (hr.mono (by decide)) rfl (pa_cons (pv 0) (pa_cons pe_int pa_nil))) (fun _ _ => rfl))) (pss_cons (ps_set (i := 5) sc_l_names.nd rfl (.inl rfl) (pe_join pe_str (pe_lc (own := [("_law_k", 8)]) (g := gName 8) (tt := tYes) (te := tOp rIxS (tVar 2) (tCall spNext [] E0 (tCons (tVar 0) (tCons (tC (.int 26)) (tNil))))) rfl sc_l_names.nd (pi_range1 rfl B.range (pa_cons (pv 4) pa_nil)) (blkOk_by (N := n_l_names) (sc := defScope s_l_names) (by decide +kernel)) (fun _ _ _ _ _ => (pg_name (i := 8) sc_l_names.nd rfl (.inl rfl))) (fun _ _ _ _ _ => pts_nil) (fun _ _ _ _ _ => (pe_ix ix_str (pv 2) (pe_kn k_l_next gd (hr.mono (by decide)) rfl (pa_cons (pv 0) (pa_cons pe_int pa_nil))) (fun _ _ => rfl)))))) (pss_cons (ps_if (pt_cmpR op_eq (pe_kn k_l_next gd (hr.mono (by decide)) rfl (pa_cons (pv 0) (pa_cons pe_int pa_nil))) pe_int (nomark _)) (pss_cons (ps_set (i := 6) sc_l_names.nd rfl (.inl rfl) (pe_split pe_str pe_str)) (pss_one (ps_set (i := 5) sc_l_names.nd rfl (.inl rfl) (pe_ix ix_list (pv 6) (pe_kn k_l_next gd (hr.mono (by decide)) rfl (pa_cons (pv 0) (pa_cons pe_int pa_nil))) (fun _ _ => rfl))))) pss_nil) (pss_cons (ps_if (pt_cmpR op_in_seq (pv 5) (pv 3) rfl) (pss_cons (ps_setLc (i := 7) (own := [("_law_k", 8)]) (g := gName 8) (tt := tYes) (te := tOp rAddS (tOp rIxS (tVar 2) (tOp (rI CDiv fun i j => .int (i / j)) (tVar 8) (tC (.int 26)))) (tOp rIxS (tVar 2) (tOp (rI (fun _ j => 0 < j) fun i j => .int (i % j)) (tVar 8) (tC (.int 26))))) rfl sc_l_names.nd rfl rfl (sw_true rfl rfl rfl (by decide +kernel)) (pi_range1 rfl B.range (pa_cons pe_int pa_nil)) (blkOk_by (N := n_l_names) (sc := defScope s_l_names) (by decide +kernel)) (fun _ _ _ _ _ => (pg_name (i := 8) sc_l_names.nd rfl (.inl rfl))) (fun _ _ _ _ _ => pts_nil) (fun _ _ _ _ _ => (pe_op op_add_str (pe_ix ix_str (pv 2) (pe_op op_fdiv (pv 8) pe_int) (fun _ _ => rfl)) (pe_ix ix_str (pv 2) (pe_op op_mod (pv 8) pe_int) (fun _ _ => rfl))))) (pss_one (ps_set (i := 5) sc_l_names.nd rfl (.inl rfl) (pe_ix ix_list (pe_lc (own := [("_law_one", 9)]) (g := gName 9) (tt := tTest (tOp (rIn K true) (tVar 9) (tVar 3))) (te := tVar 9) rfl sc_l_names.nd (pi_list (pv 7)) (blkOk_by (N := n_l_names) (sc := defScope s_l_names) (by decide +kernel)) (fun _ _ _ _ _ => (pg_name (i := 9) sc_l_names.nd rfl (.inl rfl))) (fun _ _ _ _ _ => (pts_one (pt_cmpR op_notIn_seq (pv 9) (pv 3) rfl))) (fun _ _ _ _ _ => (pv 9))) (pe_kn k_l_next gd (hr.mono (by decide)) rfl (pa_cons (pv 0) (pa_cons pe_int pa_nil))) (fun _ _ => rfl))))) pss_nil) (pss_one (ps_expr (pe_bm PySem.F.plainAttrs_list PySem.F.slot_list_append PySem.F.type_list_append mt_append (pv 3) (pa_cons (pv 5) pa_nil))))))))) (pss_one (ps_ret (pv 3)))))), ?_⟩
    dsimp only [cxOf]
    refine asg_go (tC_go (gName_go ?_))
    refine ⟨Nat.zero_le _, fun r nr => ?_⟩
    obtain ⟨s0, e0⟩ := nxo (o := .lst []) nr
    have dr0 := dr.same s0
    have k0 : Kp d H (upd H r (.lst [])) := Same.kp s0
    generalize upd H r (.lst []) = H0 at s0 e0 dr0 k0 ⊢
    refine gName_go ?_
    try dsimp only
    refine while_by (fun σ H' => ∃ (ys : List Str) (y4 y5 y6 y7 : Option V), σ = [some (.ref d), some (.int (m : Nat)), some (.str ltr), some (.ref r), y4, y5, y6, y7, none, none] ∧ ys.length ≤ m ∧ ys.Nodup ∧ (∀ y ∈ ys, Nm y) ∧ Dr H' d (n + 20 * ys.length) ∧ Kp d H H' ∧ H' r = some (.lst (ys.map V.str))) (fun σ H' => m - lenAt H' r)
      ⟨[], none, none, none, none, rfl, Nat.zero_le _, List.nodup_nil, (fun _ h => nomatch h), dr0, k0, e0⟩ (fun σ H' pv => ?_) (fun σ H' Q1 Q2 mono h => ?_)
    · obtain ⟨ys, y4, y5, y6, y7, rfl, hl, hnd, hsh, dr1, kp1, er⟩ := pv
      refine ⟨_, rfl, r, _, rfl, .inl (.of er), _, rfl, _, _, rfl, rfl, _, rfl, ite2 (fun hlt => ?_) (fun hge => ?_)⟩
      · have hlt' : ys.length < m := by
          rw [List.length_map] at hlt
          have := of_decide_eq_true hlt
          omega
        clear hlt
        have close : ∀ (wd' : Str) (y5 y7' : Option V) (y4' y6' : Option V) (H'' : Hp) (j : Nat), Nm wd' → wd' ∉ ys → j ≤ n + 20 * (ys.length + 1) → Dr H'' d j → Kp d H H'' → H'' r = some (.lst ((ys ++ [wd']).map V.str)) →
            (∃ (zs : List Str) (a4 a5 a6 a7 : Option V), ([some (.ref d), some (.int (m : Nat)), some (.str ltr), some (.ref r), y4', y5, y6', y7', none, none] : L2.St) = [some (.ref d), some (.int (m : Nat)), some (.str ltr), some (.ref r), a4, a5, a6, a7, none, none] ∧ zs.length ≤ m ∧ zs.Nodup ∧ (∀ y ∈ zs, Nm y) ∧ Dr H'' d (n + 20 * zs.length) ∧ Kp d H H'' ∧ H'' r = some (.lst (zs.map V.str))) ∧ m - lenAt H'' r < m - lenAt H' r := fun wd' y5 y7' y4' y6' H'' j sh2 nin hj dr2 k2 e2 => by
          refine ⟨⟨ys ++ [wd'], _, _, _, _, rfl, ?_, ?_, ?_, dr2.mono ?_, k2, e2⟩, ?_⟩
          · rw [List.length_append]
            show ys.length + 1 ≤ m
            omega
          · refine List.nodup_append.mpr ⟨hnd, List.nodup_cons.mpr ⟨by simp, List.nodup_nil⟩, fun a ha b hb e => ?_⟩
            rw [List.mem_singleton.mp hb] at e
            exact nin (e ▸ ha)
          · intro y hy
            rcases List.mem_append.mp hy with h | h
            · exact hsh y h
            · rw [List.mem_singleton.mp h]
              exact sh2
          · rw [List.length_append]
            exact hj
          · rw [lenAt_of e2, lenAt_of er, List.length_map, List.length_map, List.length_append]
            show m - (ys.length + 1) < m - ys.length
            omega
        -- the size
        refine ⟨_, rfl, d, 2, _, rfl, dr1, by decide, by decide, by omega, fun v1 Ha p1 q1 dra ba => ?_⟩
        refine ⟨_, _, rfl, rfl, _, rfl, d, 8, _, rfl, dra, by decide, by decide, by omega, fun v2 Hb p2 q2 drb bb => ?_⟩
        refine ⟨_, _, rfl, rfl, (by show 3 ≤ sizeLine; decide), fun l1 k1 => ?_⟩
        obtain ⟨s1, e1⟩ := nxo (o := .lst [.int (1 + v1), .int (1 + v2), .int 8]) k1
        have drs := drb.same s1
        have kps : Kp d H' (upd Hb l1 (.lst [.int (1 + v1), .int (1 + v2), .int 8])) := ba.kp.trans (bb.kp.trans (Same.kp s1))
        refine ⟨_, rfl, d, 3, _, rfl, drs, by decide, by decide, by omega, fun v3 Hc p3 q3 drc bc => ?_⟩
        obtain ⟨x, hx, hat⟩ := at_list (xs := [.int (1 + v1), .int (1 + v2), .int 8]) p3 q3
        have hz : ∃ z : Nat, x = .int z ∧ z ≤ 8 ∧ 1 ≤ z := by
          simp only [List.mem_cons, List.not_mem_nil, or_false] at hx
          rcases hx with e | e | e
          · exact ⟨(1 + v1).toNat, by rw [e, Int.toNat_of_nonneg (by omega)], by omega, by omega⟩
          · exact ⟨(1 + v2).toNat, by rw [e, Int.toNat_of_nonneg (by omega)], by omega, by omega⟩
          · exact ⟨8, e, by decide, by decide⟩
        obtain ⟨z, rfl, hz8, hz1⟩ := hz
        have kpc := kps.trans bc.kp
        refine ⟨l1, _, _, _, rfl, rfl, .of (bc.kp.lst drs e1), hat, ?_⟩
        clear hat hx p3 q3 bc drs kps s1 e1 k1 ba bb dra drb
        refine gName_go ?_
        try dsimp only
        -- the word
        refine asg_go ⟨⟨_, rfl⟩, lc_in ⟨_, rfl, (z : Int), rfl, by omega, by omega, ?_⟩⟩
        rw [Int.toNat_natCast]
        refine lc_genD (d := d) (m := n + 20 * ys.length + 1 + 1 + 1) (c := 1) (S := False) (R := fun (_ : Nat) e => ∃ c, Lw c ∧ e = .str (sg c)) (xs := List.range z) (f := fun k => .int (0 + (k : Nat))) (walk_range (lo := 0) (n := z)) List.length_range (by omega) drc (fun _ _ => trivial) (fun i a H1 x H2 ga s y => ?_) (fun a e r i => ?_) (fun k a x H1 N1 N0 ga kp1' dr1' dx n1 n0 => ⟨wiped, ?_⟩) fun Hd D ds kpd nD drd lD sel => ?_
        · obtain ⟨rfl, rfl⟩ := y
          have lt := (List.getElem?_eq_some_iff.mp ga).1
          rw [List.getElem?_eq_getElem lt] at ga
          have e : i = a := by simpa using ga
          subst e
          exact ⟨Same.refl _, .int _⟩
        · obtain ⟨c, _, e⟩ := r
          rw [e]
          exact fun z => nomatch z
        · dsimp only [tYes]
          rw [if_pos rfl]
          have lk := (List.getElem?_eq_some_iff.mp ga).1
          rw [List.length_range] at lk
          refine ⟨_, rfl, _, rfl, d, 26, _, rfl, dr1', by decide, by decide, by omega, fun v H'' h0 h1 dr'' bt => ?_⟩
          obtain ⟨c, hc, hat⟩ := at_sign (z := ltr) h0 (by rw [show ltr.length = 26 by decide +kernel]; exact h1)
          exact ⟨ltr, v, c, rfl, rfl, by decide +kernel, hat, n1 _ _ H'' bt.kp (dr''.mono (by omega)) ⟨c, ltr_lw c hc, rfl⟩ (.str _)⟩
        · obtain ⟨cs, rfl, hcs, hcl⟩ := sel.pick (f := fun c => PyData.str (sg c)) (C := Lw) fun a _ e r => by
            obtain ⟨c, h1, h2⟩ := r
            exact ⟨c, h2.symm, h1⟩
          have ln := sel.len id
          rw [List.length_map, List.length_range] at ln
          have eD : Hd D = some (.lst ((cs.map sg).map V.str)) := by
            have e : cs.map (fun c => PyData.str (sg c)) = (cs.map sg).map .str := by rw [List.map_map]; rfl
            rw [e] at lD
            exact lD.strs
          refine ⟨"", D, cs.map sg, rfl, rfl, .inl (.of eD), (by rw [join_sum]; omega), ?_⟩
          have shw : Nm (Txt.join "" (cs.map sg)) := by
            refine ⟨?_, ?_, ?_⟩
            · rw [join_signs]
              exact hcs
            · rw [join_signs]
              omega
            · rw [join_signs]
              omega
          generalize Txt.join "" (cs.map sg) = w0 at shw ⊢
          refine gName_go ?_
          try dsimp only
          have drd' : Dr Hd d (n + 20 * ys.length + 11) := drd.mono (by omega)
          have kpd' := (kp1.trans kpc).trans kpd
          have erd := (kpc.trans kpd).lst dr1 er
          clear drd eD nD lD sel hcs hcl
          -- perhaps another word
          refine ⟨_, rfl, d, 9, _, rfl, drd', by decide, by decide, by omega, fun v4 He p4 q4 dre be => ⟨rfl, _, rfl, ?_⟩⟩
          have ere := be.kp.lst drd' erd
          have kpe := kpd'.trans be.kp
          refine ite2 (fun h4 => ?_) (fun h4 => ?_)
          · refine ⟨⟨_, rfl⟩, _, " ", rfl, rfl, rfl, (by decide +kernel), fun p np => ?_⟩
            rw [ten_split]
            obtain ⟨sp, ep⟩ := nxo (o := .lst (tenW.map V.str)) np
            have drp := dre.same sp
            refine ⟨_, rfl, _, rfl, d, 10, _, rfl, drp, by decide, by decide, by omega, fun v5 Hf p5 q5 drf bf => ?_⟩
            obtain ⟨x, hx, hat⟩ := at_list (xs := tenW.map V.str) p5 q5
            obtain ⟨y, hy, rfl⟩ := List.mem_map.mp hx
            refine ⟨p, _, _, _, rfl, rfl, .of (bf.kp.lst drp ep), hat, ?_⟩
            exact tail_names (n := n + 20 * ys.length + 11 + 1 + 1) (by omega) (by omega) nr (fun wd' y5 y7' H'' sh2 nin dr2 k2 e2 => close wd' y5 y7' _ _ H'' _ sh2 nin (by omega) dr2 k2 e2) (ten_nm hy) drf (kpe.trans ((Same.kp sp).trans bf.kp)) (bf.kp.lst drp (sp _ _ ere))
          · exact tail_names (n := n + 20 * ys.length + 11 + 1) (by omega) (by omega) nr (fun wd' y5 y7' H'' sh2 nin dr2 k2 e2 => close wd' y5 y7' _ _ H'' _ sh2 nin (by omega) dr2 k2 e2) shw dre kpe ere
      · have e : ys.length = m := by
          rw [List.length_map] at hge
          have : ¬ ((ys.length : Int) < m) := fun h => hge (decide_eq_true h)
          omega
        refine ⟨_, rfl, q r ys H' nr e hnd hsh (dr1.mono (by omega)) kp1 er⟩
    · obtain ⟨v, e, a, xs, h1, h2, h3⟩ := h
      refine ⟨v, e, a, xs, h1, h2, ?_⟩
      obtain ⟨v2, e2, i, j, h4, h5, b, h6, h7⟩ := h3
      exact ⟨v2, e2, i, j, h4, h5, b, h6, mono _ _ h7⟩
end
end Pb

namespace Pb
open PySem PySem.Spec PyProof.Rows L2 TL
/-! ### data that can be compared -/
def Ly (k : Nat) (d : PyData) : Prop := d.canLay0 = true ∧ d.depth ≤ k
def LyA (k : Nat) (ds : List PyData) : Prop := PyData.canLayAll0 ds = true ∧ PyData.depthAll ds ≤ k
theorem Ly.shp {k : Nat} {d : PyData} (h : Ly k d) (hk : k ≤ 64) : SeqAt.shaped d = true := by
  unfold SeqAt.shaped
  rw [h.1, decide_eq_true (Nat.le_trans h.2 hk)]
  rfl
theorem Ly.str {z : Str} {k : Nat} (h : Sh k z) : Ly 0 (.str z) := ⟨lay_str h.1, Nat.le_refl _⟩
theorem Ly.int (i : Int) : Ly 0 (.int i) := ⟨rfl, Nat.le_refl _⟩
theorem Ly.non : Ly 0 .none := ⟨rfl, Nat.le_refl _⟩
theorem LyA.nil : LyA 0 [] := ⟨rfl, Nat.le_refl _⟩
theorem LyA.cons {j k : Nat} {d : PyData} {ds : List PyData} (h : Ly j d) (t : LyA k ds) : LyA (max j k) (d :: ds) := by
  refine ⟨?_, ?_⟩
  · show (d.canLay0 && PyData.canLayAll0 ds) = true
    rw [h.1, t.1]
    rfl
  · show max d.depth (PyData.depthAll ds) ≤ max j k
    have := h.2
    have := t.2
    omega
theorem LyA.all {k : Nat} (ds : List PyData) (h : ∀ d ∈ ds, Ly k d) : LyA k ds := ⟨lay_all ds fun d hd => (h d hd).1, depth_all ds fun d hd => (h d hd).2⟩
theorem LyA.map {α : Type} {k : Nat} {f : α → PyData} (xs : List α) (h : ∀ x ∈ xs, Ly k (f x)) : LyA k (xs.map f) := .all _ fun d hd => by
  obtain ⟨x, hx, rfl⟩ := List.mem_map.mp hd
  exact h x hx
theorem Ly.tup {k : Nat} {ds : List PyData} (h : LyA k ds) : Ly (k + 1) (.tuple ds) := ⟨h.1, Nat.succ_le_succ h.2⟩
theorem Ly.lst {k : Nat} {ds : List PyData} (h : LyA k ds) : Ly (k + 1) (.list ds) := ⟨h.1, Nat.succ_le_succ h.2⟩
/-! ### sections as they are -/
abbrev Tri := Int × Int × Int
def TriOk (t : Tri) : Prop := 0 ≤ t.1 ∧ t.1 ≤ 999 ∧ 0 ≤ t.2.1 ∧ t.2.1 ≤ 999 ∧ 0 ≤ t.2.2 ∧ t.2.2 ≤ 999
def triD (t : Tri) : PyData := .tuple [.int t.1, .int t.2.1, .int t.2.2]
def prD (t : Str × Str) : PyData := .tuple [.str t.1, .str t.2]
structure Sec where
  nm : Str
  ms : List Str
  ts : List Tri
def secD (s : Sec) : PyData := .tuple [.str s.nm, .tuple (s.ms.map .str), .tuple (s.ts.map triD)]
def waysL (ms : List Str) : List (Str × Str) := ms.zip ms.tail
/-- marks, no two ways between neighbours alike, either way round -/
inductive GoodMs : List Str → Prop
  | one (m : Str) : GoodMs [m]
  | more {ms : List Str} {l y : Str} (h : GoodMs (ms ++ [l])) (ne : y ≠ l) (w1 : (l, y) ∉ waysL (ms ++ [l])) (w2 : (y, l) ∉ waysL (ms ++ [l])) : GoodMs (ms ++ [l] ++ [y])
theorem waysL_get (ms : List Str) : ((List.range (ms.length - 1)).map fun k => (ms.getD k "", ms.getD (k + 1) "")) = waysL ms := by
  unfold waysL
  apply List.ext_getElem
  · rw [List.length_map, List.length_range, List.length_zip, List.length_tail]
    omega
  · intro i h1 h2
    rw [List.length_map, List.length_range] at h1
    rw [List.getElem_map, List.getElem_range, List.getElem_zip, List.getElem_tail, List.getD_eq_getElem?_getD, List.getD_eq_getElem?_getD, List.getElem?_eq_getElem (by omega), List.getElem?_eq_getElem (by omega)]
    rfl
theorem waysL_mem {ms : List Str} {t : Str × Str} (h : t ∈ waysL ms) : t.1 ∈ ms ∧ t.2 ∈ ms := by
  have h' : (t.1, t.2) ∈ ms.zip ms.tail := h
  obtain ⟨a, b⟩ := List.of_mem_zip h'
  exact ⟨a, List.mem_of_mem_tail b⟩
theorem eqv_str (x y : Str) : PyData.eqv (.str x) (.str y) = decide (x = y) := by
  show (x == y) = _
  by_cases h : x = y <;> simp [h]
theorem eqv_pr (s t : Str × Str) : PyData.eqv (prD s) (prD t) = decide (s = t) := by
  obtain ⟨a, b⟩ := s
  obtain ⟨c, d⟩ := t
  show (PyData.eqv (.str a) (.str c) && (PyData.eqv (.str b) (.str d) && true)) = _
  rw [eqv_str, eqv_str]
  by_cases h1 : a = c <;> by_cases h2 : b = d <;> simp [h1, h2]
theorem any_pr (ws : List (Str × Str)) (t : Str × Str) : ((ws.map prD).any fun z => PyData.eqv z (prD t)) = decide (t ∈ ws) := by
  induction ws with
  | nil => rfl
  | cons s r ih =>
    rw [List.map_cons, List.any_cons, ih, eqv_pr]
    by_cases h1 : s = t
    · subst h1
      simp
    · have h2 : ¬ t = s := fun e => h1 e.symm
      simp [h1, h2]
theorem eqv_nilL (ds : List PyData) : PyData.eqv (.list ds) (.list []) = decide (ds = []) := by
  cases ds with
  | nil => rfl
  | cons a r => rfl
end Pb

namespace Pb
open PySem PySem.Spec PyProof.Rows L2 TL
/-! ### stretches, marks, sections drawn -/
abbrev s_l_stretch : Stmt := top 23
abbrev n_l_stretch : List Str := ["_law_draw", "_law_some", "_law_k"]
abbrev p_l_stretch : List Str := ["_law_draw"]
theorem sc_l_stretch : FnScope n_l_stretch p_l_stretch (defScope s_l_stretch) := ⟨rfl, rfl, rfl, by decide +kernel, rfl, by decide +kernel, by decide +kernel⟩
def spStretch : Sp := fun vs H Q _ => ∃ (d : Addr) (n : Nat), vs = [.ref d] ∧ Dr H d n ∧ n < 2 ^ 38 ∧ ∀ (t : Tri) (v : V) (H' : Hp), TriOk t → Dr H' d (n + 9) → Kp d H H' → Dt H' v (triD t) → Q v H'
theorem Kp.none_of {d p : Addr} {H H' : Hp} (k : Kp d H H') (hd : p ≠ d) (h : H' p = none) : H p = none := by
  cases e : H p with
  | none => rfl
  | some o =>
    rw [k p o hd e] at h
    cases h
theorem Dr.ne {H : Hp} {d p : Addr} {n : Nat} (h : Dr H d n) (np : H p = none) : p ≠ d := by
  obtain ⟨kvs, ed⟩ := h.at
  exact (ne_none ed np).symm
def In9 (x : Int) : Prop := 0 ≤ x ∧ x ≤ 999
section
variable {P : Program} {w : World} {K : PySem.W.Frag} {mg : Str → Option Value} {base : Heap}
theorem kn_stretch (D : Df K mg "_law_stretch" s_l_stretch) (B : BG mg) (k_l_next : Kn P w K mg base "_law_next" 2 ["_law_draw", "_law_many"] spNext) : Kn P w K mg base "_law_stretch" 3 p_l_stretch spStretch := by
  refine D.kn sc_l_stretch (fun _ _ _ _ _ _ us hl => match us, hl with | [_], _ => rfl) (fun vs H Q E h => ?_) (fun f cdv A outer s H vs Q E gd hr h => ?_)
  · obtain ⟨d, n, rfl, _⟩ := h
    rfl
  · obtain ⟨d, n, rfl, dr, hn, q⟩ := h
    refine ⟨_, PSs.nox (pss_cons (ps_set (i := 1) sc_l_stretch.nd rfl (.inl rfl) (pe_lst (pa_cons (pe_ix ix_list (pe_lst (pa_cons pe_int (pa_cons pe_int (pa_cons (pe_op op_add pe_int (pe_kn k_l_next gd (hr.mono (by decide)) rfl (pa_cons (pv 0) (pa_cons pe_int pa_nil)))) (pa_cons (pe_op op_add pe_int (pe_kn k_l_next gd (hr.mono (by decide)) rfl (pa_cons (pv 0) (pa_cons pe_int pa_nil)))) pa_nil))))) (pe_kn k_l_next gd (hr.mono (by decide)) rfl (pa_cons (pv 0) (pa_cons pe_int pa_nil))) (fun _ _ => rfl)) pa_nil))) (pss_cons (ps_for PassesOwn.never rfl (pi_range1 rfl B.range (pa_cons pe_int pa_nil)) (pg_name (i := 2) sc_l_stretch.nd rfl (.inl rfl)) (pss_one (ps_set (i := 1) sc_l_stretch.nd rfl (.inl rfl) (pe_op op_catS (pv 1) (pe_lst (pa_cons (pe_ix ix_list (pe_lst (pa_cons pe_int (pa_cons pe_int (pa_cons (pe_kn k_l_next gd (hr.mono (by decide)) rfl (pa_cons (pv 0) (pa_cons pe_int pa_nil))) (pa_cons (pe_kn k_l_next gd (hr.mono (by decide)) rfl (pa_cons (pv 0) (pa_cons pe_int pa_nil))) pa_nil))))) (pe_kn k_l_next gd (hr.mono (by decide)) rfl (pa_cons (pv 0) (pa_cons pe_int pa_nil))) (fun _ _ => rfl)) pa_nil)))))) (pss_one (ps_ret (pe_callTy call_tuple_of rfl B.tuple bt_tuple (pa_cons (pv 1) pa_nil)))))), ?_⟩
    dsimp only [cxOf]
    -- the length
    refine ⟨_, rfl, d, 999, _, rfl, dr, by decide, by decide, by omega, fun v1 Ha p1 q1 dra ba => ?_⟩
    refine ⟨_, _, rfl, rfl, _, rfl, d, 9, _, rfl, dra, by decide, by decide, by omega, fun v2 Hb p2 q2 drb bb => ?_⟩
    refine ⟨_, _, rfl, rfl, (by show 4 ≤ sizeLine; decide), fun l1 k1 => ?_⟩
    obtain ⟨s1, e1⟩ := nxo (o := .lst [.int 1, .int 999, .int (1 + v1), .int (1 + v2)]) k1
    have drs := drb.same s1
    refine ⟨_, rfl, d, 4, _, rfl, drs, by decide, by decide, by omega, fun v3 Hc p3 q3 drc bc => ?_⟩
    obtain ⟨x, hx, hat⟩ := at_list (xs := [.int 1, .int 999, .int (1 + v1), .int (1 + v2)]) p3 q3
    have hz : ∃ z : Int, x = .int z ∧ In9 z := by
      simp only [List.mem_cons, List.not_mem_nil, or_false] at hx
      unfold In9
      rcases hx with e | e | e | e
      · exact ⟨_, e, by omega⟩
      · exact ⟨_, e, by omega⟩
      · exact ⟨_, e, by omega⟩
      · exact ⟨_, e, by omega⟩
    obtain ⟨z, rfl, hz9⟩ := hz
    refine ⟨l1, _, _, _, rfl, rfl, .of (bc.kp.lst drs e1), hat, (by show 1 ≤ sizeLine; decide), fun r nr => ?_⟩
    obtain ⟨s2, e2⟩ := nxo (o := .lst [.int z]) nr
    have kpc : Kp d H (upd Hc r (.lst [.int z])) := (ba.kp.trans (bb.kp.trans ((Same.kp s1).trans bc.kp))).trans (Same.kp s2)
    have drr := drc.same s2
    generalize upd Hc r (.lst [.int z]) = Hd at s2 e2 kpc drr ⊢
    refine gName_go ?_
    try dsimp only
    clear hat hx p3 q3 bc drs s1 e1 k1 ba bb dra drb
    refine ⟨2, rfl, by decide, by decide, ?_⟩
    refine for_it (walk_range (lo := 0) (n := 2)) (fun k σ H' => ∃ (xs : List Int) (r : Addr) (y : Option V), xs.length = k + 1 ∧ (∀ x ∈ xs, In9 x) ∧ σ = [some (.ref d), some (.ref r), y] ∧ H' r = some (.lst (xs.map V.int)) ∧ Dr H' d (n + 3 + 3 * k) ∧ Kp d H H') ⟨[z], r, none, rfl, (fun x hx => by rw [List.mem_singleton.mp hx]; exact hz9), rfl, e2, drr.mono (by omega), kpc⟩ (fun _ _ _ _ _ => trivial) (fun k x σ Ha Hb hk pv y => ?_) (fun σ Ha pv => ?_)
    · obtain ⟨xs, r, y1, xl, x9, rfl, er, dra, kpa⟩ := pv
      obtain ⟨rfl, rfl⟩ := y
      refine gName_go ?_
      try dsimp only
      refine ⟨_, rfl, _, rfl, d, 1000, _, rfl, dra, by decide, by decide, by omega, fun v1 Hb p1 q1 drb bb => ?_⟩
      refine ⟨_, rfl, d, 9, _, rfl, drb, by decide, by decide, by omega, fun v2 Hc p2 q2 drc bc => ?_⟩
      refine ⟨(by show 4 ≤ sizeLine; decide), fun l1 k1 => ?_⟩
      obtain ⟨s1, e1⟩ := nxo (o := .lst [.int 0, .int 999, .int v1, .int v2]) k1
      have drs := drc.same s1
      refine ⟨_, rfl, d, 4, _, rfl, drs, by decide, by decide, by omega, fun v3 He p3 q3 dre be => ?_⟩
      obtain ⟨x, hx, hat⟩ := at_list (xs := [.int 0, .int 999, .int v1, .int v2]) p3 q3
      have hz : ∃ z : Int, x = .int z ∧ In9 z := by
        simp only [List.mem_cons, List.not_mem_nil, or_false] at hx
        unfold In9
        rcases hx with e | e | e | e
        · exact ⟨_, e, by omega⟩
        · exact ⟨_, e, by omega⟩
        · exact ⟨_, e, by omega⟩
        · exact ⟨_, e, by omega⟩
      obtain ⟨z2, rfl, hz2⟩ := hz
      refine ⟨l1, _, _, _, rfl, rfl, .of (be.kp.lst drs e1), hat, (by show 1 ≤ sizeLine; decide), fun r2 nr2 => ?_⟩
      have kpe := bb.kp.trans (bc.kp.trans ((Same.kp s1).trans be.kp))
      obtain ⟨s2, e2⟩ := nxo (o := .lst [.int z2]) nr2
      refine ⟨r, r2, _, _, rfl, rfl, .of (s2 _ _ (kpe.lst dra er)), .of e2, ?_, fun r3 nr3 => ?_⟩
      · rw [List.length_map]
        exact Nat.le_of_lt (len20k (by show xs.length + 1 ≤ 30000; omega))
      obtain ⟨s3, e3⟩ := nxo (o := .lst (xs.map V.int ++ [.int z2])) nr3
      refine gName_go ⟨xs ++ [z2], r3, _, ?_, fun x hx => ?_, rfl, ?_, ((dre.same s2).same s3).mono ?_, kpa.trans (kpe.trans (Same.kp (s2.trans s3)))⟩
      · rw [List.length_append, xl]
        rfl
      · rcases List.mem_append.mp hx with h | h
        · exact x9 x h
        · rw [List.mem_singleton.mp h]
          exact hz2
      · rw [e3, List.map_append]
        rfl
      · omega
    · obtain ⟨xs, r, y1, xl, x9, rfl, er, dra, kpa⟩ := pv
      match xs, xl, x9, er with
      | [a, b, c], _, x9, er =>
        refine ⟨_, rfl, r, _, rfl, .inl ⟨.of er, fun p np => ?_⟩⟩
        obtain ⟨s1, e1⟩ := nxo (o := .tup [.int a, .int b, .int c]) np
        obtain ⟨a0, a1⟩ := x9 a (by simp)
        obtain ⟨b0, b1⟩ := x9 b (by simp)
        obtain ⟨c0, c1⟩ := x9 c (by simp)
        exact q (a, b, c) _ _ ⟨a0, a1, b0, b1, c0, c1⟩ ((dra.same s1).mono (by omega)) (kpa.trans (Same.kp s1)) (.tup e1 (.cons (.int _) (.cons (.int _) (.cons (.int _) .nil))))
end
end Pb

namespace Pb
open PySem PySem.Spec PyProof.Rows L2 TL
abbrev s_l_marks : Stmt := top 24
abbrev n_l_marks : List Str := ["_law_draw", "_law_pool", "_law_many", "_law_marks_here", "_law_ways", "_law_rest", "_law_k", "_law_one", "_law_here", "_law_there"]
abbrev p_l_marks : List Str := ["_law_draw", "_law_pool", "_law_many"]
theorem sc_l_marks : FnScope n_l_marks p_l_marks (defScope s_l_marks) := ⟨rfl, rfl, rfl, by decide +kernel, rfl, by decide +kernel, by decide +kernel⟩
/-- marks of the pool: at least two of them, and no way twice -/
structure MsOk (ys ms : List Str) : Prop where
  good : GoodMs ms
  two : 2 ≤ ms.length
  few : ms.length ≤ 8
  sub : ∀ m ∈ ms, m ∈ ys
def spMarks : Sp := fun vs H Q _ => ∃ (d pp : Addr) (ys : List Str) (z n : Nat), vs = [.ref d, .ref pp, .int (z : Nat)] ∧ Dr H d n ∧ n < 2 ^ 37 ∧ 2 ≤ z ∧ z ≤ 8 ∧ H pp = some (.lst (ys.map V.str)) ∧ ys.Nodup ∧ 2 ≤ ys.length ∧ ys.length ≤ 30 ∧ (∀ y ∈ ys, Nm y) ∧
  ∀ (r : Addr) (ms : List Str) (H' : Hp), H r = none → MsOk ys ms → Dr H' d (n + 9) → Kp d H H' → H' r = some (.lst (ms.map V.str)) → Q (.ref r) H'
theorem atI_last {α : Type} (xs : List α) (x : α) : atI (xs ++ [x]) (-1) = some x := by
  unfold atI ixN
  rw [if_neg (by decide)]
  have : (xs ++ [x]).length = xs.length + 1 := by simp
  simp only [this]
  rw [if_pos (by omega)]
  have e : ((-1 : Int) + ((xs.length + 1 : Nat) : Int)).toNat = xs.length := by omega
  show (xs ++ [x])[((-1 : Int) + ((xs.length + 1 : Nat) : Int)).toNat]? = some x
  rw [e]
  simp
theorem gOwn2 {σ : L2.St} {i j : Nat} {x y : V} (hi : i < σ.length) (n : i ≠ j) : (((wipe σ [i, j]).set i (some x)).set j (some y))[i]? = some (some x) := by
  rw [List.getElem?_set_ne (Ne.symm n)]
  exact set_get (by rw [wipe_length]; exact hi)
theorem gOwn2' {σ : L2.St} {i j : Nat} {x y : V} (hj : j < σ.length) : (((wipe σ [i, j]).set i (some x)).set j (some y))[j]? = some (some y) := set_get (by rw [List.length_set, wipe_length]; exact hj)
theorem wiped2 {σ : L2.St} {i j : Nat} {x y : Option V} (n : i ≠ j) : wipe (((wipe σ [i, j]).set i x).set j y) [i, j] = wipe σ [i, j] := by
  show (((((σ.set j none).set i none).set i x).set j y).set j none).set i none = (σ.set j none).set i none
  rw [List.set_set, List.set_set, List.set_comm x none n (l := σ.set j none), List.set_set, List.set_set]
theorem gOth2 {σ : L2.St} {i j k : Nat} {x y z : Option V} (h : σ[k]? = some z) (n : i ≠ k) (m : j ≠ k) : (((wipe σ [i, j]).set i x).set j y)[k]? = some z := by
  show (((((σ.set j none).set i none).set i x).set j y))[k]? = _
  rw [List.getElem?_set_ne m, List.getElem?_set_ne n, List.getElem?_set_ne n, List.getElem?_set_ne m]
  exact h
section
variable {K : PySem.W.Frag} {σ : L2.St} {H : Hp} {Q : VK}
theorem at_get {xs : List Str} {v : Int} {k : Nat} (e : v = (k : Nat)) (h : k < xs.length) : atI (xs.map V.str) v = some (.str (xs.getD k "")) := by
  subst e
  refine atI_nat ?_
  rw [List.getElem?_map, List.getD_eq_getElem?_getD, List.getElem?_eq_getElem h]
  rfl
/-- the ways of marks -/
theorem lc_ways {rm : Addr} {ms : List Str} (h3 : σ[3]? = some (some (.ref rm))) (hi : 6 < σ.length) (em : H rm = some (.lst (ms.map V.str))) (hl : ms.length ≤ 1000) (h1 : 1 ≤ ms.length)
    (q : ∀ H' D, Same H H' → H D = none → LD H' D ((waysL ms).map prD) → Q (.ref D) H') : (tLc (iRng1 (tCons (tOp (rI0 fun i j => .int (i - j)) (tCB (rLenQ K) (tCons (tVar 3) (tNil))) (tC (.int 1))) (tNil))) (gName 6) (tYes) (tTup (tCons (tOp (rIxL K) (tVar 3) (tVar 6)) (tCons (tOp (rIxL K) (tVar 3) (tOp (rI0 fun i j => .int (i + j)) (tVar 6) (tC (.int 1)))) (tNil)))) [6]) σ H Q := by
  refine lc_in ⟨_, h3, rm, _, rfl, .inl (.of em), _, _, rfl, rfl, ((ms.length - 1 : Nat) : Int), ?_, by omega, by omega, ?_⟩
  · rw [List.length_map]
    show [V.int (((ms.length : Nat) : Int) - 1)] = _
    have : ((ms.length : Nat) : Int) - 1 = ((ms.length - 1 : Nat) : Int) := by omega
    rw [this]
  rw [Int.toNat_natCast]
  refine lc_rng (p := fun _ => true) (gd := fun k => prD (ms.getD k "", ms.getD (k + 1) "")) (by omega) (fun a x H1 N1 N0 ha sm dx n1 n0 => ⟨wiped, ?_⟩) fun H' D sm nD l => ?_
  · have hk : a < ms.length - 1 := List.mem_range.mp ha
    have e := dx.int'
    subst e
    dsimp only [tYes]
    rw [if_pos rfl]
    refine ⟨_, gOth h3 (by decide), _, gOwn hi, rm, _, _, _, rfl, rfl, .of (sm _ _ em), at_get (k := a) (by omega) (by omega), _, gOth h3 (by decide), _, gOwn hi, _, _, rfl, rfl, rm, _, _, _, rfl, rfl, .of (sm _ _ em), at_get (k := a + 1) (by omega) (by omega), (by show 2 ≤ sizeLine; decide), fun t nt => ?_⟩
    obtain ⟨st, et⟩ := nxo (o := .tup [.str (ms.getD a ""), .str (ms.getD (a + 1) "")]) nt
    exact n1 _ _ st rfl (.tup et (.cons (.str _) (.cons (.str _) .nil)))
  · refine q H' D sm nD ?_
    rw [← waysL_get, List.map_map]
    rw [List.filter_eq_self.mpr (fun _ _ => rfl)] at l
    exact l
/-- each the other way round -/
theorem lc_back {wa : Addr} {ws : List (Str × Str)} (h4 : σ[4]? = some (some (.ref wa))) (hi : 9 < σ.length) (ew : LD H wa (ws.map prD)) (hl : ws.length ≤ 1000)
    (q : ∀ H' D, Same H H' → H D = none → LD H' D ((ws.map fun t => (t.2, t.1)).map prD) → Q (.ref D) H') : (tLc (iList K (tVar 4)) (gTup K 2 (gCons (gName 8) (gCons (gName 9) (gNil)))) (tYes) (tTup (tCons (tVar 9) (tCons (tVar 8) (tNil)))) [8, 9]) σ H Q := by
  obtain ⟨vs, e, t⟩ := ew
  refine lc_in ⟨_, h4, wa, rfl, ⟨_, .of e⟩, ?_⟩
  refine lc_lst (K := K) (p := fun _ => true) (gd := fun t => prD (t.2, t.1)) (f := prD) e t (by exact Nat.le_trans hl (by decide)) (fun a x H1 N1 N0 ha sm dx n1 n0 => ?_) fun H' D sm nD l => ?_
  · obtain ⟨p, vs, rfl, ep, t⟩ := dx.tup'
    obtain ⟨_, _, rfl, d1, t⟩ := t.cons'
    obtain ⟨_, _, rfl, d2, t⟩ := t.cons'
    have e := t.nil'
    subst e
    have e1 := d1.str'
    have e2 := d2.str'
    subst e1 e2
    refine ⟨p, _, rfl, .of ep, rfl, _, _, rfl, _, _, rfl, rfl, wiped2 (by decide), ?_⟩
    dsimp only [tYes]
    rw [if_pos rfl]
    refine ⟨_, gOwn2' (by omega), _, gOwn2 (by omega) (by decide), (by show 2 ≤ sizeLine; decide), fun u nu => ?_⟩
    obtain ⟨su, eu⟩ := nxo (o := .tup [.str a.2, .str a.1]) nu
    exact n1 _ _ su rfl (.tup eu (.cons (.str _) (.cons (.str _) .nil)))
  · refine q H' D sm nD ?_
    rw [List.map_map]
    rw [List.filter_eq_self.mpr (fun _ _ => rfl)] at l
    exact l
def goOn (ys ms : List Str) (l : Str) : List Str := ys.filter fun y => !decide (y = l) && !decide ((l, y) ∈ waysL (ms ++ [l]) ++ (waysL (ms ++ [l])).map fun t => (t.2, t.1))
/-- where one can go on to -/
theorem lc_on {pp rm wa : Addr} {ys ms : List Str} {l : Str} (h1 : σ[1]? = some (some (.ref pp))) (h3 : σ[3]? = some (some (.ref rm))) (h4 : σ[4]? = some (some (.ref wa))) (hi : 7 < σ.length) (ep : H pp = some (.lst (ys.map V.str))) (em : H rm = some (.lst ((ms ++ [l]).map V.str)))
    (ew : LD H wa ((waysL (ms ++ [l]) ++ (waysL (ms ++ [l])).map fun t => (t.2, t.1)).map prD)) (hy : ys.length ≤ 1000) (yn : ∀ y ∈ ys, Nm y) (mn : ∀ y ∈ ms ++ [l], Nm y)
    (q : ∀ H' D, Same H H' → H D = none → H' D = some (.lst ((goOn ys ms l).map V.str)) → Q (.ref D) H') : (tLc (iList K (tVar 1)) (gName 7) (tAnd (tTest (tOp rNe (tVar 7) (tOp (rIxL K) (tVar 3) (tUn (rU fun i => .int (-i)) (tC (.int 1)))))) (tTest (tOp (rNotInD K) (tTup (tCons (tOp (rIxL K) (tVar 3) (tUn (rU fun i => .int (-i)) (tC (.int 1)))) (tCons (tVar 7) (tNil)))) (tVar 4)))) (tVar 7) [7]) σ H Q := by
  refine lc_in ⟨_, h1, pp, rfl, ⟨_, .of ep⟩, ?_⟩
  refine lc_lst (K := K) (p := fun y => !decide (y = l) && !decide ((l, y) ∈ waysL (ms ++ [l]) ++ (waysL (ms ++ [l])).map fun t => (t.2, t.1))) (gd := .str) (f := .str) ep (dtAll_strs ys) (by omega) (fun a x H1 N1 N0 ha sm dx n1 n0 => ⟨wiped, ?_⟩) fun H' D sm nD l => q H' D sm nD l.strs
  have e := dx.str'
  subst e
  have lst : atI ((ms ++ [l]).map V.str) (-1) = some (.str l) := by
    rw [List.map_append]
    exact atI_last _ _
  refine ⟨_, gOwn hi, _, gOth h3 (by decide), _, rfl, rm, _, _, _, rfl, rfl, .of (sm _ _ em), lst, rfl, _, rfl, ?_⟩
  have ed : (!decide (V.str a = V.str l)) = !decide (a = l) := by
    by_cases c : a = l
    · subst c
      simp
    · have : ¬ V.str a = V.str l := fun z => c (V.str.inj z)
      simp [c, this]
  rw [ed]
  refine ite2 (fun c1 => ?_) (fun c1 => ?_)
  · refine ⟨_, gOth h3 (by decide), _, rfl, rm, _, _, _, rfl, rfl, .of (sm _ _ em), lst, _, gOwn hi, (by show 2 ≤ sizeLine; decide), fun t nt => ?_⟩
    obtain ⟨st, et⟩ := nxo (o := .tup [.str l, .str a]) nt
    have s2 := sm.trans st
    have lw : ∀ t ∈ waysL (ms ++ [l]) ++ (waysL (ms ++ [l])).map (fun t => (t.2, t.1)), Ly 1 (prD t) := fun t ht => by
      have : t.1 ∈ ms ++ [l] ∧ t.2 ∈ ms ++ [l] := by
        rcases List.mem_append.mp ht with h | h
        · exact waysL_mem h
        · obtain ⟨u, hu, rfl⟩ := List.mem_map.mp h
          exact ⟨(waysL_mem hu).2, (waysL_mem hu).1⟩
      exact .tup (.cons (.str (mn _ this.1).sh) (.cons (.str (mn _ this.2).sh) .nil))
    refine ⟨_, gOth h4 (by decide), prD (l, a), _, .tup (.of et) (.cons (.str _) (.cons (.str _) .nil)), (ew.same s2).dp, (Ly.tup (.cons (.str (mn l (by simp)).sh) (.cons (.str (yn a ha).sh) .nil))).shp (by decide), (Ly.lst (.map _ lw)).shp (by decide), _, rfl, ?_⟩
    rw [any_pr]
    refine ite2 (fun c2 => ?_) (fun c2 => ?_)
    · exact ⟨_, gOwn hi, n1 _ _ st (by rw [c1, c2]; rfl) (.str _)⟩
    · exact n0 _ st (by
        have : (!decide ((l, a) ∈ waysL (ms ++ [l]) ++ (waysL (ms ++ [l])).map fun t => (t.2, t.1))) = false := Bool.eq_false_iff.mpr c2
        rw [this, Bool.and_false])
  · exact iteF (n0 _ (Same.refl _) (by
      have : (!decide (a = l)) = false := Bool.eq_false_iff.mpr c1
      rw [this, Bool.false_and]))
end
theorem goOn_ne {ys ms : List Str} {l y : Str} (h : y ∈ goOn ys ms l) : y ∈ ys ∧ y ≠ l ∧ (l, y) ∉ waysL (ms ++ [l]) ∧ (y, l) ∉ waysL (ms ++ [l]) := by
  obtain ⟨h1, h2⟩ := List.mem_filter.mp h
  rw [Bool.and_eq_true] at h2
  obtain ⟨h2, h3⟩ := h2
  have h3 : (l, y) ∉ waysL (ms ++ [l]) ++ (waysL (ms ++ [l])).map fun t => (t.2, t.1) := by simpa using h3
  refine ⟨h1, by simpa using h2, fun z => h3 (List.mem_append_left _ z), fun z => h3 (List.mem_append_right _ (List.mem_map.mpr ⟨(y, l), z, rfl⟩))⟩
theorem goOn_first {ys : List Str} {l : Str} (nd : ys.Nodup) (h2 : 2 ≤ ys.length) : goOn ys [] l ≠ [] := fun h => by
  have all : ∀ y ∈ ys, y = l := fun y hy => by
    by_cases c : y = l
    · exact c
    · have : y ∈ goOn ys [] l := List.mem_filter.mpr ⟨hy, by
        have e : waysL ([] ++ [l]) = [] := rfl
        rw [e]
        simp [c]⟩
      rw [h] at this
      cases this
  match ys, nd, h2, all with
  | a :: b :: r, nd, _, all =>
    have e1 := all a (by simp)
    have e2 := all b (by simp)
    rw [e1, e2] at nd
    exact absurd List.mem_cons_self (List.nodup_cons.mp nd).1
section
variable {P : Program} {w : World} {K : PySem.W.Frag} {mg : Str → Option Value} {base : Heap}
theorem kn_marks (D : Df K mg "_law_marks" s_l_marks) (B : BG mg) (k_l_next : Kn P w K mg base "_law_next" 2 ["_law_draw", "_law_many"] spNext) : Kn P w K mg base "_law_marks" 3 p_l_marks spMarks := by
  refine D.kn sc_l_marks (fun _ _ _ _ _ _ us hl => match us, hl with | [_, _, _], _ => rfl) (fun vs H Q E h => ?_) (fun f cdv A outer s H vs Q E gd hr h => ?_)
  · obtain ⟨d, pp, ys, z, n, rfl, _⟩ := h
    rfl
  · obtain ⟨d, pp, ys, z, n, rfl, dr, hn, z2, z8, ey, nd, y2, yl, ynm, q⟩ := h
    have hu65 : (A.deeper (envOfC "_law_marks" (defScope s_l_marks) s.heap.objs.size f cdv)).units + 65 < cLine := by
      have := hr.un
      omega
    refine ⟨_, PSs.nox (pss_cons (ps_set (i := 3) sc_l_marks.nd rfl (.inr rfl) (pe_lst (pa_cons (pe_ix ix_list (pv 1) (pe_kn k_l_next gd (hr.mono (by decide)) rfl (pa_cons (pv 0) (pa_cons (pe_callB call_len_seq rfl B.len PySem.boot_len (pa_cons (pv 1) pa_nil)) pa_nil))) (fun _ _ => rfl)) pa_nil))) (pss_cons (ps_while PassesOwn.never (pt_cmpR op_lt (pe_callB call_len_seq rfl B.len PySem.boot_len (pa_cons (pv 3) pa_nil)) (pv 2) (nomark _)) (pss_cons (ps_set (i := 4) sc_l_marks.nd rfl (.inr rfl) (pe_lc (own := [("_law_k", 6)]) (g := gName 6) (tt := tYes) (te := tTup (tCons (tOp (rIxL K) (tVar 3) (tVar 6)) (tCons (tOp (rIxL K) (tVar 3) (tOp (rI0 fun i j => .int (i + j)) (tVar 6) (tC (.int 1)))) (tNil)))) rfl sc_l_marks.nd (pi_range1 rfl B.range (pa_cons (pe_op op_sub (pe_callB call_len_seq rfl B.len PySem.boot_len (pa_cons (pv 3) pa_nil)) pe_int) pa_nil)) (blkOk_by (N := n_l_marks) (sc := defScope s_l_marks) (by decide +kernel)) (fun _ _ _ _ _ => (pg_name (i := 6) sc_l_marks.nd rfl (.inl rfl))) (fun _ _ _ _ _ => pts_nil) (fun _ _ _ _ _ => (pe_tup (pa_cons (pe_ix ix_list (pv 3) (pv 6) (fun _ _ => rfl)) (pa_cons (pe_ix ix_list (pv 3) (pe_op op_add (pv 6) pe_int) (fun _ _ => rfl)) pa_nil)))))) (pss_cons (ps_set (i := 4) sc_l_marks.nd rfl (.inr rfl) (pe_op op_catS (pv 4) (pe_lc (own := [("_law_here", 8), ("_law_there", 9)]) (g := gTup K 2 (gCons (gName 8) (gCons (gName 9) (gNil)))) (tt := tYes) (te := tTup (tCons (tVar 9) (tCons (tVar 8) (tNil)))) rfl sc_l_marks.nd (pi_list (pv 4)) (blkOk_by (N := n_l_marks) (sc := defScope s_l_marks) (by decide +kernel)) (fun _ _ _ _ _ => (pg_tup rfl (pgs_cons (pg_name (i := 8) sc_l_marks.nd rfl (.inl rfl)) (pgs_cons (pg_name (i := 9) sc_l_marks.nd rfl (.inl rfl)) pgs_nil)))) (fun _ _ _ _ _ => pts_nil) (fun _ _ _ _ _ => (pe_tup (pa_cons (pv 9) (pa_cons (pv 8) pa_nil))))))) (pss_cons (ps_setLc (i := 5) (own := [("_law_one", 7)]) (g := gName 7) (tt := tAnd (tTest (tOp rNe (tVar 7) (tOp (rIxL K) (tVar 3) (tUn (rU fun i => .int (-i)) (tC (.int 1)))))) (tTest (tOp (rNotInD K) (tTup (tCons (tOp (rIxL K) (tVar 3) (tUn (rU fun i => .int (-i)) (tC (.int 1)))) (tCons (tVar 7) (tNil)))) (tVar 4)))) (te := tVar 7) rfl sc_l_marks.nd rfl rfl (sw_true rfl rfl rfl (by decide +kernel)) (pi_list (pv 1)) (blkOk_by (N := n_l_marks) (sc := defScope s_l_marks) (by decide +kernel)) (fun _ _ _ _ _ => (pg_name (i := 7) sc_l_marks.nd rfl (.inl rfl))) (fun _ _ _ _ _ => (pts_one (PW.pt (pw_and (pt_cmpR op_ne (pv 7) (pe_ix ix_list (pv 3) (pe_un un_neg pe_int) (fun _ _ => rfl)) (nomark _)) (pw_and1 (pt_cmpR (op_notInD hu65) (pe_tup (pa_cons (pe_ix ix_list (pv 3) (pe_un un_neg pe_int) (fun _ _ => rfl)) (pa_cons (pv 7) pa_nil))) (pv 4) rfl)))))) (fun _ _ _ _ _ => (pv 7))) (pss_cons (ps_if (pt_cmpR (op_eqD hr.units) (pv 5) (pe_lst pa_nil) (nomark _)) (pss_one (ps_ret (pv 3))) pss_nil) (pss_one (ps_expr (pe_bm PySem.F.plainAttrs_list PySem.F.slot_list_append PySem.F.type_list_append mt_append (pv 3) (pa_cons (pe_ix ix_list (pv 5) (pe_kn k_l_next gd (hr.mono (by decide)) rfl (pa_cons (pv 0) (pa_cons (pe_callB call_len_seq rfl B.len PySem.boot_len (pa_cons (pv 5) pa_nil)) pa_nil))) (fun _ _ => rfl)) pa_nil))))))))) (pss_one (ps_ret (pv 3))))), ?_⟩
    dsimp only [cxOf]
    refine ⟨_, rfl, _, rfl, _, rfl, pp, _, rfl, .inl (.of ey), d, _, _, rfl, dr, by rw [List.length_map]; omega, by rw [List.length_map]; omega, by omega, fun v Ha p0 q0 dra ba => ?_⟩
    obtain ⟨x, hx, hat⟩ := at_list (xs := ys.map V.str) p0 q0
    obtain ⟨y0, hy0, rfl⟩ := List.mem_map.mp hx
    refine ⟨pp, _, _, _, rfl, rfl, .of (ba.kp.lst dr ey), hat, (by show 1 ≤ sizeLine; decide), fun rm nrm => ?_⟩
    obtain ⟨s1, e1⟩ := nxo (o := .lst [.str y0]) nrm
    have rmd := dra.ne nrm
    have nrmH : H rm = none := ba.kp.none_of rmd nrm
    have dr1 := dra.same s1
    have kp1 : Kp d H (upd Ha rm (.lst [.str y0])) := ba.kp.trans (Same.kp s1)
    generalize upd Ha rm (.lst [.str y0]) = H1 at s1 e1 dr1 kp1 ⊢
    refine gName_go ?_
    try dsimp only
    clear hat hx p0 q0 ba dra s1 nrm
    refine while_by (fun σ H' => ∃ (ms : List Str) (l : Str) (y4 y5 : Option V), σ = [some (.ref d), some (.ref pp), some (.int (z : Nat)), some (.ref rm), y4, y5, none, none, none, none] ∧ GoodMs (ms ++ [l]) ∧ (ms ++ [l]).length ≤ z ∧ (∀ m ∈ ms ++ [l], m ∈ ys) ∧ H' rm = some (.lst ((ms ++ [l]).map V.str)) ∧ Dr H' d (n + 1 + ms.length) ∧ Kp d H H')
      (fun σ H' => z - lenAt H' rm) ⟨[], y0, none, none, rfl, .one _, (by show 1 ≤ z; omega), (fun m hm => by rw [List.nil_append, List.mem_singleton] at hm; rw [hm]; exact hy0), e1, dr1, kp1⟩ (fun σ H' pv => ?_) (fun σ H' Q1 Q2 mono h => ?_)
    · obtain ⟨ms, l, y4, y5, rfl, good, hl, sub, em, dr2, kp2⟩ := pv
      have ln : (ms ++ [l]).length = ms.length + 1 := by simp
      have mnm : ∀ y ∈ ms ++ [l], Nm y := fun y hy => ynm y (sub y hy)
      refine ⟨_, rfl, rm, _, rfl, .inl (.of em), _, rfl, _, _, rfl, rfl, _, rfl, ite2 (fun hlt => ?_) (fun hge => ?_)⟩
      · have lt : ms.length + 1 < z := by
          rw [List.length_map, ln] at hlt
          have := of_decide_eq_true hlt
          omega
        clear hlt
        refine asg_go (lc_ways (K := K) (ms := ms ++ [l]) rfl (Nat.lt_of_sub_eq_succ rfl) em (by omega) (by omega) fun H2 wa s2 nwa lw => gName_go ?_)
        try dsimp only
        have wl : (waysL (ms ++ [l])).length ≤ 100 := by
          rw [← waysL_get, List.length_map, List.length_range]
          omega
        refine asg_go (op_go (var_go rfl (lc_back (K := K) rfl (Nat.lt_of_sub_eq_succ rfl) lw (by omega) fun H3 wb s3 nwb lb => ?_)))
        obtain ⟨va, ea, ta⟩ := lw.same s3
        obtain ⟨vb, eb, tb⟩ := lb
        refine ⟨wa, wb, _, _, rfl, rfl, .of ea, .of eb, ?_, fun wc nwc => ?_⟩
        · have l1 := ta.len
          have l2 := tb.len
          rw [List.length_map] at l1 l2
          rw [List.length_map] at l2
          exact Nat.le_of_lt (len20k (by omega))
        obtain ⟨s4, e4⟩ := nxo (o := .lst (va ++ vb)) nwc
        have lc : LD (upd H3 wc (.lst (va ++ vb))) wc ((waysL (ms ++ [l]) ++ (waysL (ms ++ [l])).map fun t => (t.2, t.1)).map prD) := ⟨_, e4, by rw [List.map_append]; exact (ta.app tb).tk (Same.tk s4)⟩
        generalize upd H3 wc (.lst (va ++ vb)) = H4 at s4 e4 lc ⊢
        have s14 := s2.trans (s3.trans s4)
        refine gName_go ?_
        try dsimp only
        have ep := kp2.lst dr ey
        refine asg_go (lc_on (K := K) rfl rfl rfl (Nat.lt_of_sub_eq_succ rfl) (s14 _ _ ep) (s14 _ _ em) lc (by omega) ynm mnm fun H5 ra s5 nra era => gName_go ?_)
        try dsimp only
        have s15 := s14.trans s5
        refine ⟨_, rfl, Nat.zero_le _, fun e ne => ?_⟩
        obtain ⟨s6, e6⟩ := nxo (o := .lst []) ne
        have s16 := s15.trans s6
        refine ⟨_, .list [], dp_strs _ (s6 _ _ era), .lst (.of e6) .nil, shp_strs (fun y hy => (ynm y (goOn_ne hy).1).sh.1), rfl, _, rfl, ?_⟩
        rw [eqv_nilL]
        generalize upd H5 e (.lst []) = H6 at s6 e6 s16 ⊢
        have dr6 := dr2.same s16
        refine ite2 (fun hem => ?_) (fun hne => ?_)
        · have hem : goOn ys ms l = [] := by
            have := of_decide_eq_true hem
            simpa using this
          refine ⟨_, rfl, q rm (ms ++ [l]) H6 nrmH ⟨good, ?_, by omega, sub⟩ (dr6.mono (by omega)) (kp2.trans (Same.kp s16)) (s16 _ _ em)⟩
          cases ms with
          | nil => exact absurd hem (goOn_first nd y2)
          | cons a r =>
            simp
        · have gne : goOn ys ms l ≠ [] := fun h => hne (by rw [h]; rfl)
          have gp : 0 < (goOn ys ms l).length := List.length_pos_iff.mpr gne
          have gl : (goOn ys ms l).length ≤ ys.length := List.length_filter_le _ _
          have er6 := s6 _ _ era
          refine ⟨_, rfl, .inl ⟨rfl, _, .of (s16 _ _ em)⟩, _, rfl, _, rfl, _, rfl, ra, _, rfl, .inl (.of er6), d, _, _, rfl, dr6, by rw [List.length_map]; omega, by rw [List.length_map]; omega, by omega, fun v H7 p0 q0 dr7 b7 => ?_⟩
          obtain ⟨x, hx, hat⟩ := at_list (xs := (goOn ys ms l).map V.str) p0 q0
          obtain ⟨y, hy, rfl⟩ := List.mem_map.mp hx
          have em7 := b7.kp.lst dr6 (s16 _ _ em)
          obtain ⟨g1, g2, g3, g4⟩ := goOn_ne hy
          refine ⟨ra, _, _, _, rfl, rfl, .of (b7.kp.lst dr6 er6), hat, rm, _, _, rfl, rfl, em7, ?_, ⟨ms ++ [l], y, _, _, rfl, .more good g2 g3 g4, ?_, fun m hm => ?_, ?_, ?_, fun b o nb e => ?_⟩, ?_⟩
          · rw [List.length_map]
            exact len20k (by omega)
          · simp
            omega
          · rcases List.mem_append.mp hm with h | h
            · exact sub m h
            · rw [List.mem_singleton.mp h]
              exact g1
          · rw [upd_same, List.map_append (l₁ := ms ++ [l])]
            rfl
          · refine (dr7.updL em7 strs_nint).mono ?_
            omega
          · rw [upd_ne (ne_none e nrmH)]
            exact b7.kp b o nb (s16 _ _ (kp2 b o nb e))
          · rw [lenAt_of upd_same, lenAt_of em, List.length_append, List.length_map, ln]
            show z - (ms.length + 1 + 1) < z - (ms.length + 1)
            omega
      · have e : (ms ++ [l]).length = z := by
          rw [List.length_map] at hge
          have : ¬ (((ms ++ [l]).length : Int) < z) := fun h => hge (decide_eq_true h)
          omega
        exact ⟨_, rfl, q rm (ms ++ [l]) H' nrmH ⟨good, by omega, by omega, sub⟩ (dr2.mono (by omega)) kp2 em⟩
    · obtain ⟨v, e, a, xs, h1, h2, h3⟩ := h
      refine ⟨v, e, a, xs, h1, h2, ?_⟩
      obtain ⟨v2, e2, i, j, h4, h5, b, h6, h7⟩ := h3
      exact ⟨v2, e2, i, j, h4, h5, b, h6, mono _ _ h7⟩
end
end Pb

namespace Pb
open PySem PySem.Spec PyProof.Rows L2 TL
/-! ### sections, some of a row, what stands beside -/
abbrev s_l_section : Stmt := top 25
abbrev n_l_section : List Str := ["_law_draw", "_law_name", "_law_pool", "_law_marks_here", "_law_k"]
abbrev p_l_section : List Str := ["_law_draw", "_law_name", "_law_pool"]
theorem sc_l_section : FnScope n_l_section p_l_section (defScope s_l_section) := ⟨rfl, rfl, rfl, by decide +kernel, rfl, by decide +kernel, by decide +kernel⟩
abbrev s_l_picked : Stmt := top 26
abbrev n_l_picked : List Str := ["_law_draw", "_law_row", "_law_most", "_law_every", "_law_one"]
abbrev p_l_picked : List Str := ["_law_draw", "_law_row", "_law_most"]
theorem sc_l_picked : FnScope n_l_picked p_l_picked (defScope s_l_picked) := ⟨rfl, rfl, rfl, by decide +kernel, rfl, by decide +kernel, by decide +kernel⟩
structure SecOk (ys : List Str) (s : Sec) : Prop where
  ms : MsOk ys s.ms
  len : s.ms.length = s.ts.length + 1
  ok : ∀ t ∈ s.ts, TriOk t
def spSection : Sp := fun vs H Q _ => ∃ (d pp : Addr) (nm : Str) (ys : List Str) (n : Nat), vs = [.ref d, .str nm, .ref pp] ∧ Dr H d n ∧ n < 2 ^ 36 ∧ H pp = some (.lst (ys.map V.str)) ∧ ys.Nodup ∧ 2 ≤ ys.length ∧ ys.length ≤ 30 ∧ (∀ y ∈ ys, Nm y) ∧
  ∀ (s : Sec) (v : V) (H' : Hp), s.nm = nm → SecOk ys s → Dr H' d (n + 100) → Kp d H H' → Dt H' v (secD s) → Q v H'
def spPicked : Sp := fun vs H Q _ => ∃ (d r : Addr) (xs : List Str) (z n : Nat), vs = [.ref d, .ref r, .int (z : Nat)] ∧ Dr H d n ∧ n < 2 ^ 36 ∧ H r = some (.lst (xs.map V.str)) ∧ xs.length ≤ 100 ∧
  ∀ (p : Addr) (zs : List Str) (H' : Hp), zs.Sublist xs → zs.length ≤ z → Dr H' d (n + 101) → Kp d H H' → H' p = some (.lst (zs.map V.str)) → Q (.ref p) H'
theorem Sel.sub {α β : Type} {S : Prop} {f : α → β} {xs : List α} {ds : List β} (h : Sel S (fun a d => d = f a) xs ds) : ∃ zs : List α, ds = zs.map f ∧ zs.Sublist xs := by
  induction h with
  | nil => exact ⟨[], rfl, List.Sublist.refl _⟩
  | skip s h ih =>
    obtain ⟨zs, e, sb⟩ := ih
    exact ⟨zs, e, sb.trans (List.sublist_append_left _ _)⟩
  | take r h ih =>
    obtain ⟨zs, e, sb⟩ := ih
    refine ⟨zs ++ [_], by rw [e, r, List.map_append]; rfl, sb.append (List.Sublist.refl _)⟩
theorem rng_int {n : Nat} {d : Addr} {H H1 H2 : Hp} {i a : Nat} {x : V} (ga : (List.range n)[i]? = some a) (y : YFn (fun i => V.int (0 + i)) i H1 x H2) : Same H1 H2 ∧ Dt H2 x (.int (0 + (a : Nat))) := by
  obtain ⟨rfl, rfl⟩ := y
  have lt := (List.getElem?_eq_some_iff.mp ga).1
  rw [List.getElem?_eq_getElem lt] at ga
  have e : i = a := by simpa using ga
  subst e
  exact ⟨Same.refl _, .int _⟩
theorem yAtK {d : Addr} {m : Nat} {H H1 H2 : Hp} {α : Type} {xs : List α} {f : α → PyData} {vs : List V} (t : DtAll H vs (xs.map f)) (dr : Dr H d m) {i : Nat} {a : α} {x : V} (ga : xs[i]? = some a) (k : Kp d H H1) (y : YAt vs i H1 x H2) : Same H1 H2 ∧ Dt H2 x (f a) := by
  obtain ⟨rfl, gx⟩ := y
  obtain ⟨v, gv, dv⟩ := t.get i (f a) (by rw [List.getElem?_map, ga]; rfl)
  rw [gv] at gx
  cases gx
  exact ⟨Same.refl _, dv.tk (k.tk dr)⟩
theorem cut_to (xs : List V) (z : Nat) : cutV xs none (some (z : Int)) = xs.take z := by
  unfold cutV
  rw [HT.sIx_nat]
  show (xs.drop 0).take (min z xs.length - 0) = xs.take z
  rw [List.drop_zero, Nat.sub_zero, ← List.take_eq_take_min]
section
variable {P : Program} {w : World} {K : PySem.W.Frag} {mg : Str → Option Value} {base : Heap}
theorem kn_section (D : Df K mg "_law_section" s_l_section) (B : BG mg) (k_l_next : Kn P w K mg base "_law_next" 2 ["_law_draw", "_law_many"] spNext) (k_l_marks : Kn P w K mg base "_law_marks" 3 p_l_marks spMarks) (k_l_stretch : Kn P w K mg base "_law_stretch" 3 p_l_stretch spStretch) : Kn P w K mg base "_law_section" 4 p_l_section spSection := by
  refine D.kn sc_l_section (fun _ _ _ _ _ _ us hl => match us, hl with | [_, _, _], _ => rfl) (fun vs H Q E h => ?_) (fun f cdv A outer s H vs Q E gd hr h => ?_)
  · obtain ⟨d, pp, nm, ys, n, rfl, _⟩ := h
    rfl
  · obtain ⟨d, pp, nm, ys, n, rfl, dr, hn, ey, nd, y2, yl, ynm, q⟩ := h
    refine ⟨_, PSs.nox (pss_cons (ps_set (i := 3) sc_l_section.nd rfl (.inl rfl) (pe_kn k_l_marks gd (hr.mono (by decide)) rfl (pa_cons (pv 0) (pa_cons (pv 2) (pa_cons (pe_ix ix_list (pe_lst (pa_cons pe_int (pa_cons pe_int (pa_cons pe_int (pa_cons (pe_op op_add pe_int (pe_kn k_l_next gd (hr.mono (by decide)) rfl (pa_cons (pv 0) (pa_cons pe_int pa_nil)))) pa_nil))))) (pe_kn k_l_next gd (hr.mono (by decide)) rfl (pa_cons (pv 0) (pa_cons pe_int pa_nil))) (fun _ _ => rfl)) pa_nil))))) (pss_one (ps_ret (pe_tup (pa_cons (pv 1) (pa_cons (pe_callTy call_tuple_of rfl B.tuple bt_tuple (pa_cons (pv 3) pa_nil)) (pa_cons (pe_callTy call_tuple_of rfl B.tuple bt_tuple (pa_cons (pe_lc (own := [("_law_k", 4)]) (g := gName 4) (tt := tYes) (te := tCall spStretch [] E0 (tCons (tVar 0) (tNil))) rfl sc_l_section.nd (pi_range1 rfl B.range (pa_cons (pe_op op_sub (pe_callB call_len_seq rfl B.len PySem.boot_len (pa_cons (pv 3) pa_nil)) pe_int) pa_nil)) (blkOk_by (N := n_l_section) (sc := defScope s_l_section) (by decide +kernel)) (fun _ _ _ _ _ => (pg_name (i := 4) sc_l_section.nd rfl (.inl rfl))) (fun _ _ _ _ _ => pts_nil) (fun _ _ _ _ _ => (pe_kn k_l_stretch gd (hr.mono (by decide)) rfl (pa_cons (pv 0) pa_nil)))) pa_nil)) pa_nil))))))), ?_⟩
    dsimp only [cxOf]
    refine ⟨_, rfl, _, rfl, _, rfl, d, 7, _, rfl, dr, by decide, by decide, by omega, fun v1 Ha p1 q1 dra ba => ?_⟩
    refine ⟨_, _, rfl, rfl, (by show 4 ≤ sizeLine; decide), fun l1 k1 => ?_⟩
    obtain ⟨s1, e1⟩ := nxo (o := .lst [.int 2, .int 3, .int 8, .int (2 + v1)]) k1
    have drs := dra.same s1
    refine ⟨_, rfl, d, 4, _, rfl, drs, by decide, by decide, by omega, fun v3 Hc p3 q3 drc bc => ?_⟩
    obtain ⟨x, hx, hat⟩ := at_list (xs := [.int 2, .int 3, .int 8, .int (2 + v1)]) p3 q3
    have hz : ∃ z : Nat, x = .int (z : Nat) ∧ 2 ≤ z ∧ z ≤ 8 := by
      simp only [List.mem_cons, List.not_mem_nil, or_false] at hx
      rcases hx with e | e | e | e
      · exact ⟨2, e, by omega, by omega⟩
      · exact ⟨3, e, by omega, by omega⟩
      · exact ⟨8, e, by omega, by omega⟩
      · exact ⟨(2 + v1).toNat, by rw [e, Int.toNat_of_nonneg (by omega)], by omega, by omega⟩
    obtain ⟨z, rfl, hz2, hz8⟩ := hz
    have kpc := ba.kp.trans ((Same.kp s1).trans bc.kp)
    refine ⟨l1, _, _, _, rfl, rfl, .of (bc.kp.lst drs e1), hat, d, pp, ys, z, _, rfl, drc, by omega, hz2, hz8, kpc.lst dr ey, nd, y2, yl, ynm, fun rm ms Hd nrm mok drd kpd em => gName_go ?_⟩
    try dsimp only
    clear hat hx p3 q3
    have kp := kpc.trans kpd
    refine ret_go (cons_go (var_go rfl (cons_go ?_)))
    refine ⟨_, rfl, rm, _, rfl, .inl ⟨.of em, fun tm ntm => ?_⟩⟩
    obtain ⟨s2, e2⟩ := nxo (o := .tup (ms.map V.str)) ntm
    have dr2 := drd.same s2
    have em2 := s2 _ _ em
    generalize upd Hd tm (.tup (ms.map V.str)) = H2 at s2 e2 dr2 em2 ⊢
    refine cons_go (cB_go (cons_go (lc_in ⟨_, rfl, rm, _, rfl, .inl (.of em2), _, _, rfl, rfl, ((ms.length - 1 : Nat) : Int), ?_, ?_, ?_, ?_⟩)))
    · rw [List.length_map]
      show [V.int (((ms.length : Nat) : Int) - 1)] = _
      have := mok.two
      have e : ((ms.length : Nat) : Int) - 1 = ((ms.length - 1 : Nat) : Int) := by omega
      rw [e]
    · have := mok.few
      omega
    · have := mok.few
      omega
    rw [Int.toNat_natCast]
    have few := mok.few
    have two := mok.two
    refine lc_genD (d := d) (c := 9) (S := False) (R := fun (_ : Nat) e => ∃ t, TriOk t ∧ e = triD t) (xs := List.range (ms.length - 1)) (f := fun k => .int (0 + (k : Nat))) (walk_range (lo := 0) (n := ms.length - 1)) List.length_range (by omega) dr2 (fun _ _ => trivial) (fun i a H1 x H2' ga s y => rng_int (d := d) (H := H) ga y) (fun a e r i => ?_) (fun k a x H1 N1 N0 ga kp1' dr1' dx n1 n0 => ⟨wiped, ?_⟩) fun H3 D3 ds kp3 nD3 dr3 lD sel => ?_
    · obtain ⟨c, _, e⟩ := r
      rw [e]
      exact fun z => nomatch z
    · dsimp only [tYes]
      rw [if_pos rfl]
      have lk := (List.getElem?_eq_some_iff.mp ga).1
      rw [List.length_range] at lk
      exact ⟨_, rfl, d, _, rfl, dr1', by omega, fun t v H' tok dr' kp' dt => n1 v _ H' kp' (dr'.mono (by omega)) ⟨t, tok, rfl⟩ dt⟩
    · have ln := sel.len id
      rw [List.length_range] at ln
      obtain ⟨ts, rfl, tok, _⟩ := sel.pick (f := triD) (C := TriOk) fun a _ e r => by
        obtain ⟨t, h1, h2⟩ := r
        exact ⟨t, h2.symm, h1⟩
      rw [List.length_map] at ln
      obtain ⟨vs, evs, tvs⟩ := lD
      refine ⟨D3, vs, rfl, .inl ⟨.of evs, fun tt ntt => ⟨(by show 3 ≤ sizeLine; decide), fun p np => ?_⟩⟩⟩
      obtain ⟨s4, e4⟩ := nxo (o := .tup vs) ntt
      obtain ⟨s5, e5⟩ := nxo (o := .tup [.str nm, .ref tm, .ref tt]) np
      have t45 := (Same.tk s4).trans (Same.tk s5)
      refine q ⟨nm, ms, ts⟩ _ _ rfl ⟨mok, by show ms.length = ts.length + 1; omega, tok⟩ (((dr3.same s4).same s5).mono (by omega)) (kp.trans ((Same.kp s2).trans (kp3.trans (Same.kp (s4.trans s5))))) (.tup e5 (.cons (.str _) (.cons (.tup ((kp3.tk dr2).trans t45 _ _ e2) (dtAll_strs ms)) (.cons (.tup (s5 _ _ e4) (tvs.tk t45)) .nil))))
theorem kn_picked (D : Df K mg "_law_picked" s_l_picked) (B : BG mg) (k_l_next : Kn P w K mg base "_law_next" 2 ["_law_draw", "_law_many"] spNext) : Kn P w K mg base "_law_picked" 3 p_l_picked spPicked := by
  refine D.kn sc_l_picked (fun _ _ _ _ _ _ us hl => match us, hl with | [_, _, _], _ => rfl) (fun vs H Q E h => ?_) (fun f cdv A outer s H vs Q E gd hr h => ?_)
  · obtain ⟨d, r, xs, z, n, rfl, _⟩ := h
    rfl
  · obtain ⟨d, r, xs, z, n, rfl, dr, hn, er, xl, q⟩ := h
    refine ⟨_, PSs.nox (pss_cons (ps_set (i := 3) sc_l_picked.nd rfl (.inr rfl) (pe_op op_add pe_int (pe_kn k_l_next gd (hr.mono (by decide)) rfl (pa_cons (pv 0) (pa_cons pe_int pa_nil))))) (pss_one (ps_ret (pe_slice sl_list (pe_lc (own := [("_law_one", 4)]) (g := gName 4) (tt := tTest (tOp rEq (tCall spNext [] E0 (tCons (tVar 0) (tCons (tVar 3) (tNil)))) (tC (.int 0)))) (te := tVar 4) rfl sc_l_picked.nd (pi_list (pv 1)) (blkOk_by (N := n_l_picked) (sc := defScope s_l_picked) (by decide +kernel)) (fun _ _ _ _ _ => (pg_name (i := 4) sc_l_picked.nd rfl (.inl rfl))) (fun _ _ _ _ _ => (pts_one (pt_cmpR op_eq (pe_kn k_l_next gd (hr.mono (by decide)) rfl (pa_cons (pv 0) (pa_cons (pv 3) pa_nil))) pe_int (nomark _)))) (fun _ _ _ _ _ => (pv 4))) po_none (po_some (pv 2)))))), ?_⟩
    dsimp only [cxOf]
    refine ⟨_, rfl, d, 4, _, rfl, dr, by decide, by decide, by omega, fun v1 Ha p1 q1 dra ba => ⟨_, _, rfl, rfl, gName_go ?_⟩⟩
    try dsimp only
    have er1 := ba.kp.lst dr er
    refine ret_go (lc_in ⟨_, rfl, r, rfl, ⟨_, .of er1⟩, ?_⟩)
    refine lc_genD (d := d) (c := 1) (S := True) (R := fun (a : Str) e => e = .str a) (xs := xs) (f := .str) (walk_list (K := K) (a := r) (xs := xs.map V.str)) (by rw [List.length_map]) (by rw [List.length_map]; omega) dra (fun H1 k => .of (k.lst dra er1)) (fun i a H1 x H2 ga k y => yAtK (dtAll_strs xs) dra ga k y) (fun a e r i => ?_) (fun k a x H1 N1 N0 ga kp1' dr1' dx n1 n0 => ⟨wiped, ?_⟩) fun H3 D3 ds kp3 nD3 dr3 lD sel => ?_
    · rw [r]
      exact fun z => nomatch z
    · have lk := (List.getElem?_eq_some_iff.mp ga).1
      refine ⟨_, rfl, _, rfl, d, _, _, rfl, dr1', by omega, by omega, by omega, fun v H2 h0 h1 dr2 b2 => ⟨rfl, _, rfl, ite2 (fun c => ?_) (fun c => ?_)⟩⟩
      · have e := dx.str'
        subst e
        exact ⟨_, gOwn (Nat.lt_of_sub_eq_succ rfl), n1 _ _ _ b2.kp (dr2.mono (by omega)) rfl (.str _)⟩
      · exact n0 _ trivial b2.kp (dr2.mono (by omega))
    · obtain ⟨zs, rfl, sb⟩ := sel.sub
      have e3 := lD.strs
      refine ⟨_, rfl, _, rfl, D3, _, rfl, .of e3, fun p np => ?_⟩
      rw [cut_to, ← List.map_take]
      obtain ⟨s4, e4⟩ := nxo (o := .lst ((zs.take z).map V.str)) np
      refine q p (zs.take z) _ ((List.take_sublist _ _).trans sb) (by rw [List.length_take]; omega) ((dr3.same s4).mono ?_) (ba.kp.trans (kp3.trans (Same.kp s4))) e4
      rw [List.length_map]
      omega
end
end Pb

namespace Pb
open PySem PySem.Spec PyProof.Rows L2 TL
/-! ### what stands beside -/
abbrev s_l_besides : Stmt := top 27
abbrev n_l_besides : List Str := ["_law_draw", "_law_names_here", "_law_rest", "_law_besides_here", "_law_beside_here", "_law_k"]
abbrev p_l_besides : List Str := ["_law_draw", "_law_names_here"]
theorem sc_l_besides : FnScope n_l_besides p_l_besides (defScope s_l_besides) := ⟨rfl, rfl, rfl, by decide +kernel, rfl, by decide +kernel, by decide +kernel⟩
structure BsOk (xs : List Str) (bs : List (List Str)) : Prop where
  few : bs.length ≤ 4
  nd : bs.flatten.Nodup
  sub : ∀ b ∈ bs, ∀ y ∈ b, y ∈ xs
  some : ∀ b ∈ bs, 2 ≤ b.length ∧ b.length ≤ 4
def bsD (b : List Str) : PyData := .tuple (b.map .str)
def spBesides : Sp := fun vs H Q _ => ∃ (d r : Addr) (xs : List Str) (n : Nat), vs = [.ref d, .ref r] ∧ Dr H d n ∧ n < 2 ^ 36 ∧ H r = some (.lst (xs.map V.str)) ∧ xs.Nodup ∧ xs.length ≤ 30 ∧
  ∀ (bs : List (List Str)) (v : V) (H' : Hp), BsOk xs bs → Dr H' d (n + 100) → Kp d H H' → Dt H' v (.tuple (bs.map bsD)) → Q v H'
def MonoT (t : TT) : Prop := ∀ σ H (Q1 Q2 : Bool → Hp → Prop), (∀ b H', Q1 b H' → Q2 b H') → t σ H Q1 → t σ H Q2
def MonoE (t : TE) : Prop := ∀ σ H (Q1 Q2 : VK), (∀ b H', Q1 b H' → Q2 b H') → t σ H Q1 → t σ H Q2
def MonoA (t : TA) : Prop := ∀ σ H (Q1 Q2 : List V → Hp → Prop), (∀ b H', Q1 b H' → Q2 b H') → t σ H Q1 → t σ H Q2
theorem mo_var {i : Nat} : MonoE (tVar i) := fun σ H Q1 Q2 m h => by
  obtain ⟨v, e, q⟩ := h
  exact ⟨v, e, m _ _ q⟩
theorem mo_c {v : V} : MonoE (tC v) := fun σ H Q1 Q2 m h => m _ _ h
theorem mo_nil : MonoA tNil := fun σ H Q1 Q2 m h => m _ _ h
theorem mo_cons {t : TE} {u : TA} (a : MonoE t) (b : MonoA u) : MonoA (tCons t u) := fun σ H Q1 Q2 m h => a σ H _ _ (fun v H1 h1 => b σ H1 _ _ (fun vs H2 h2 => m _ _ h2) h1) h
theorem mo_I0 {g : Int → Int → V} {a b : TE} (ha : MonoE a) (hb : MonoE b) : MonoE (tOp (rI0 g) a b) := fun σ H Q1 Q2 m h => ha σ H _ _ (fun x H1 h1 => hb σ H1 _ _ (fun y H2 h2 => by
  obtain ⟨i, j, e1, e2, q⟩ := h2
  exact ⟨i, j, e1, e2, m _ _ q⟩) h1) h
theorem mo_len {K : PySem.W.Frag} {a : TA} (ha : MonoA a) : MonoE (tCB (rLenQ K) a) := fun σ H Q1 Q2 m h => ha σ H _ _ (fun vs H1 h1 => by
  obtain ⟨p, ys, e, s, q⟩ := h1
  exact ⟨p, ys, e, s, m _ _ q⟩) h
theorem mo_next {a : TA} (ha : MonoA a) : MonoE (tCall spNext [] E0 a) := fun σ H Q1 Q2 m h => ha σ H _ _ (fun vs H1 h1 => by
  obtain ⟨d, z, n, e, dr, h2, h3, h4, q⟩ := h1
  exact ⟨d, z, n, e, dr, h2, h3, h4, fun v H' a b c f => m _ _ (q v H' a b c f)⟩) h
theorem mo_test {a : TE} (ha : MonoE a) : MonoT (tTest a) := fun σ H Q1 Q2 m h => ha σ H _ _ (fun x H1 h1 => by
  obtain ⟨c, e, q⟩ := h1
  exact ⟨c, e, m _ _ q⟩) h
theorem mo_and {a b : TT} (ha : MonoT a) (hb : MonoT b) : MonoT (tAnd a b) := fun σ H Q1 Q2 m h => ha σ H _ _ (fun c H1 h1 => by
  cases c with
  | true => exact hb σ H1 _ _ m h1
  | false => exact m _ _ h1) h
theorem map_erase {α β : Type} (f : α → β) : ∀ (l : List α) (i : Nat), (l.map f).eraseIdx i = (l.eraseIdx i).map f
  | [], i => by cases i <;> rfl
  | a :: l, 0 => rfl
  | a :: l, i + 1 => by
    show f a :: (l.map f).eraseIdx i = f a :: (l.eraseIdx i).map f
    rw [map_erase f l i]
theorem perm_step {r b f xs : List Str} {k : Nat} {y : Str} (p : (r ++ b ++ f).Perm xs) (e : r[k]? = some y) : (r.eraseIdx k ++ (b ++ [y]) ++ f).Perm xs := by
  refine List.Perm.trans ?_ p
  refine List.Perm.append_right _ ?_
  have h1 : (y :: r.eraseIdx k).Perm r := erase_perm r k y e
  have h2 : (r.eraseIdx k ++ (b ++ [y])).Perm (y :: (r.eraseIdx k ++ b)) := by
    rw [← List.append_assoc]
    exact List.perm_append_singleton _ _
  exact h2.trans (h1.append_right b)
theorem at_map {xs : List Str} {v : Int} (h0 : 0 ≤ v) (h1 : v < xs.length) : ∃ k y, v = ((k : Nat) : Int) ∧ k < xs.length ∧ xs[k]? = some y := by
  obtain ⟨j, rfl⟩ : ∃ j : Nat, v = (j : Int) := ⟨_, (Int.toNat_of_nonneg h0).symm⟩
  exact ⟨j, _, rfl, by omega, List.getElem?_eq_getElem (by omega)⟩
section
variable {P : Program} {w : World} {K : PySem.W.Frag} {mg : Str → Option Value} {base : Heap}
theorem kn_besides (D : Df K mg "_law_besides" s_l_besides) (B : BG mg) (k_l_next : Kn P w K mg base "_law_next" 2 ["_law_draw", "_law_many"] spNext) : Kn P w K mg base "_law_besides" 3 p_l_besides spBesides := by
  refine D.kn sc_l_besides (fun _ _ _ _ _ _ us hl => match us, hl with | [_, _], _ => rfl) (fun vs H Q E h => ?_) (fun f cdv A outer s H vs Q E gd hr h => ?_)
  · obtain ⟨d, r, xs, n, rfl, _⟩ := h
    rfl
  · obtain ⟨d, r, xs, n, rfl, dr, hn, er, nd, xl, q⟩ := h
    refine ⟨_, PSs.nox (pss_cons (ps_par (i := 2) (j := 3) rfl sc_l_besides.nd rfl rfl (by decide) rfl rfl (pa_cons (pe_callTy call_list_of rfl B.list bt_list (pa_cons (pv 1) pa_nil)) (pa_cons (pe_lst pa_nil) pa_nil)) (by rfl)) (pss_cons (ps_while PassesOwn.never (PW.pt (pw_and (pt_cmpR op_gt (pe_callB call_len_seq rfl B.len PySem.boot_len (pa_cons (pv 2) pa_nil)) pe_int (nomark _)) (pw_and (pt_cmpR op_lt (pe_callB call_len_seq rfl B.len PySem.boot_len (pa_cons (pv 3) pa_nil)) pe_int (nomark _)) (pw_and1 (pt_cmpR op_gt (pe_kn k_l_next gd (hr.mono (by decide)) rfl (pa_cons (pv 0) (pa_cons pe_int pa_nil))) pe_int (nomark _)))))) (pss_cons (ps_set (i := 4) sc_l_besides.nd rfl (.inl rfl) (pe_lst pa_nil)) (pss_cons (ps_for PassesOwn.never rfl (pi_range1 rfl B.range (pa_cons (pe_callB (call_min2 rfl) rfl B.min bt_min (pa_cons (pe_callB call_len_seq rfl B.len PySem.boot_len (pa_cons (pv 2) pa_nil)) (pa_cons (pe_op op_add pe_int (pe_kn k_l_next gd (hr.mono (by decide)) rfl (pa_cons (pv 0) (pa_cons pe_int pa_nil)))) pa_nil))) pa_nil)) (pg_name (i := 5) sc_l_besides.nd rfl (.inl rfl)) (pss_one (ps_expr (pe_bm PySem.F.plainAttrs_list PySem.F.slot_list_append PySem.F.type_list_append mt_append (pv 4) (pa_cons (pe_bm PySem.F.plainAttrs_list PySem.F.slot_list_pop PySem.F.type_list_pop mt_popAt (pv 2) (pa_cons (pe_kn k_l_next gd (hr.mono (by decide)) rfl (pa_cons (pv 0) (pa_cons (pe_callB call_len_seq rfl B.len PySem.boot_len (pa_cons (pv 2) pa_nil)) pa_nil))) pa_nil)) pa_nil))))) (pss_one (ps_expr (pe_bm PySem.F.plainAttrs_list PySem.F.slot_list_append PySem.F.type_list_append mt_append (pv 3) (pa_cons (pe_callTy call_tuple_of rfl B.tuple bt_tuple (pa_cons (pv 4) pa_nil)) pa_nil))))))) (pss_one (ps_ret (pe_callTy call_tuple_of rfl B.tuple bt_tuple (pa_cons (pv 3) pa_nil)))))), ?_⟩
    dsimp only [cxOf]
    refine ⟨_, rfl, r, _, rfl, .inl (.of er), fun rr nrr => ⟨Nat.zero_le _, fun rb nrb => ⟨_, _, rfl, ?_⟩⟩⟩
    obtain ⟨s1, e1⟩ := nxo (o := .lst (xs.map V.str)) nrr
    generalize upd H rr (.lst (xs.map V.str)) = H1 at s1 e1 nrb ⊢
    obtain ⟨s2, e2⟩ := nxo (o := .lst []) nrb
    generalize upd H1 rb (.lst []) = H2 at s2 e2 ⊢
    have s12 := s1.trans s2
    have nb : rr ≠ rb := ne_none e1 nrb
    have nrbH : H rb = none := same_none s1 nrb
    try dsimp only
    refine while_by (fun σ H' => ∃ (rs : List Str) (bs : List (List Str)) (j : Nat) (y4 y5 : Option V), σ = [some (.ref d), some (.ref r), some (.ref rr), some (.ref rb), y4, y5] ∧ (rs ++ bs.flatten).Perm xs ∧ bs.length ≤ 4 ∧ (∀ b ∈ bs, 2 ≤ b.length ∧ b.length ≤ 4) ∧ H' rr = some (.lst (rs.map V.str)) ∧ LD H' rb (bs.map bsD) ∧ j ≤ 6 * bs.length ∧ Dr H' d (n + j) ∧ Kp d H H')
      (fun σ H' => 4 - lenAt H' rb) ⟨xs, [], 0, none, none, rfl, (by simp), Nat.zero_le _, (fun _ h => nomatch h), s2 _ _ e1, ⟨[], e2, .nil⟩, Nat.le_refl _, dr.same s12, Same.kp s12⟩ (fun σ H' pv => ?_) (mo_and (mo_test (mo_I0 (mo_len (mo_cons mo_var mo_nil)) mo_c)) (mo_and (mo_test (mo_I0 (mo_len (mo_cons mo_var mo_nil)) mo_c)) (mo_test (mo_I0 (mo_next (mo_cons mo_var (mo_cons mo_c mo_nil))) mo_c))))
    obtain ⟨rs, bs, j, y4, y5, rfl, pm, bl, b24, err, ⟨vb, erb, tb⟩, hj, dr3, kp3⟩ := pv
    have lb := tb.len
    rw [List.length_map] at lb
    have fin : ∀ (H'' : Hp) (i : Nat), Kp d H' H'' → i ≤ j + 1 → Dr H'' d (n + i) → tRet (tCB (rTupOf K) (tCons (tVar 3) tNil)) { nx := fun _ H' => Q V.non H', rt := Q } [some (.ref d), some (.ref r), some (.ref rr), some (.ref rb), y4, y5] H'' := fun H'' i kp hi dr4 => by
      have erb' := kp.lst dr3 erb
      refine ⟨_, rfl, rb, _, rfl, .inl ⟨.of erb', fun p np => ?_⟩⟩
      obtain ⟨s5, e5⟩ := nxo (o := .tup vb) np
      have ndf : (rs ++ bs.flatten).Nodup := pm.nodup_iff.mpr nd
      refine q bs _ _ ⟨bl, (List.nodup_append.mp ndf).2.1, fun b hb y hy => pm.mem_iff.mp (List.mem_append_right _ (List.mem_flatten.mpr ⟨b, hb, hy⟩)), b24⟩ ((dr4.same s5).mono (by omega)) (kp3.trans (kp.trans (Same.kp s5))) (.tup e5 (tb.tk ((kp.tk dr3).trans (Same.tk s5))))
    refine ⟨_, rfl, rr, _, rfl, .inl (.of err), _, _, rfl, rfl, _, rfl, ite2 (fun c1 => ?_) (fun c1 => iteF (fin H' j (Kp.refl _) (by omega) dr3))⟩
    refine ⟨_, rfl, rb, _, rfl, .inl (.of erb), _, _, rfl, rfl, _, rfl, ite2 (fun c2 => ?_) (fun c2 => iteF (fin H' j (Kp.refl _) (by omega) dr3))⟩
    have l2 : 2 ≤ rs.length := by
      rw [List.length_map] at c1
      have := of_decide_eq_true c1
      omega
    have b4 : bs.length < 4 := by
      rw [lb] at c2
      have := of_decide_eq_true c2
      omega
    refine ⟨_, rfl, d, 3, _, rfl, dr3, by decide, by decide, by omega, fun v1 H4 p1 q1 dr4 b4' => ⟨_, _, rfl, rfl, _, rfl, ite2 (fun c3 => ?_) (fun c3 => fin H4 (j + 1) b4'.kp (by omega) dr4)⟩⟩
    clear c1 c2 c3
    -- one more
    refine ⟨Nat.zero_le _, fun r2 nr2 => gName_go ?_⟩
    try dsimp only
    obtain ⟨s5, e5⟩ := nxo (o := .lst []) nr2
    have err4 := b4'.kp.lst dr3 err
    have erb4 := b4'.kp.lst dr3 erb
    have n2r : r2 ≠ rr := (ne_none err4 nr2).symm
    have n2b : r2 ≠ rb := (ne_none erb4 nr2).symm
    have n2H : H r2 = none := (kp3.trans b4'.kp).none_of (dr4.ne nr2) nr2
    have dr5 := dr4.same s5
    have kp5 : Kp d H' (upd H4 r2 (.lst [])) := b4'.kp.trans (Same.kp s5)
    have err5 := s5 _ _ err4
    have erb5 := s5 _ _ erb4
    have tb5 := tb.tk (kp5.tk dr3)
    generalize upd H4 r2 (.lst []) = H5 at s5 e5 dr5 kp5 err5 erb5 tb5 ⊢
    refine ⟨_, rfl, rr, _, rfl, .inl (.of err5), _, rfl, d, 3, _, rfl, dr5, by decide, by decide, by omega, fun v2 H6 p2 q2 dr6 b6 => ⟨_, _, rfl, rfl, _, _, rfl, ?_⟩⟩
    obtain ⟨z, ez, z2, z4, zl⟩ : ∃ z : Nat, (if 2 + v2 < (((rs.map V.str).length : Nat) : Int) then 2 + v2 else (((rs.map V.str).length : Nat) : Int)) = (z : Int) ∧ 2 ≤ z ∧ z ≤ 4 ∧ z ≤ rs.length := by
      rw [List.length_map]
      by_cases c : 2 + v2 < ((rs.length : Nat) : Int)
      · rw [if_pos c]
        exact ⟨(2 + v2).toNat, by rw [Int.toNat_of_nonneg (by omega)], by omega, by omega, by omega⟩
      · rw [if_neg c]
        exact ⟨rs.length, rfl, by omega, by omega, Nat.le_refl _⟩
    rw [ez]
    refine ⟨(z : Int), rfl, by omega, by omega, ?_⟩
    rw [Int.toNat_natCast]
    have err6 := b6.kp.lst dr5 err5
    have erb6 := b6.kp.lst dr5 erb5
    have e6 := b6.kp.lst dr5 e5
    have tb6 := tb5.tk (b6.kp.tk dr5)
    have kp6 := kp5.trans b6.kp
    refine for_it (walk_range (lo := 0) (n := z)) (fun k σ H' => ∃ (ra be : List Str) (y : Option V), σ = [some (.ref d), some (.ref r), some (.ref rr), some (.ref rb), some (.ref r2), y] ∧ (ra ++ be ++ bs.flatten).Perm xs ∧ be.length = k ∧ ra.length + k = rs.length ∧ H' rr = some (.lst (ra.map V.str)) ∧ H' r2 = some (.lst (be.map V.str)) ∧ LD H' rb (bs.map bsD) ∧ lenAt H' rb = bs.length ∧ Dr H' d (n + j + 2 + k) ∧ Kp d H H') ⟨rs, [], _, rfl, (by simpa using pm), rfl, rfl, err6, e6, ⟨vb, erb6, tb6⟩, (by rw [lenAt_of erb6, lb]), dr6, kp3.trans kp6⟩ (fun _ _ _ _ _ => trivial) (fun k x σ Ha Hb hk pv y => ?_) (fun σ Ha pv => ?_)
    · obtain ⟨ra, be, y5, rfl, pm', bk, rk, e1a, e2a, ⟨va, e3a, ta⟩, lna, dra, kpa⟩ := pv
      obtain ⟨rfl, rfl⟩ := y
      refine gName_go ?_
      try dsimp only
      have rp : 0 < ra.length := by omega
      have rl30 : ra.length ≤ 30 := by
        have := pm'.length_eq
        rw [List.length_append, List.length_append] at this
        omega
      refine ⟨_, rfl, .inl ⟨rfl, _, .of e2a⟩, _, rfl, .inl ⟨rfl, _, .of e1a⟩, _, rfl, _, rfl, rr, _, rfl, .inl (.of e1a), d, _, _, rfl, dra, by rw [List.length_map]; omega, by rw [List.length_map]; omega, by omega, fun v H7 p0 q0 dr7 b7 => ?_⟩
      rw [List.length_map] at q0
      obtain ⟨i, y, rfl, hi, gy⟩ := at_map p0 q0
      have e1b := b7.kp.lst dra e1a
      have e2b := b7.kp.lst dra e2a
      have e3b := b7.kp.lst dra e3a
      have six : seqIndex? ((i : Nat) : Int) (ra.map V.str).length = some i := by
        unfold seqIndex?
        rw [List.length_map]
        simp
        omega
      refine ⟨rr, _, _, i, .str y, rfl, rfl, e1b, by omega, by omega, six, by rw [List.getElem?_map, gy]; rfl, ?_⟩
      have e2c : upd H7 rr (.lst ((ra.map V.str).eraseIdx i)) r2 = some (.lst (be.map V.str)) := by
        rw [upd_ne n2r]
        exact e2b
      refine ⟨r2, _, _, rfl, rfl, e2c, ?_, ra.eraseIdx i, be ++ [y], _, rfl, perm_step pm' gy, ?_, ?_, ?_, ?_, ⟨va, ?_, ?_⟩, ?_, ?_, fun b o nb' e => ?_⟩
      · rw [List.length_map]
        exact len20k (by omega)
      · rw [List.length_append, bk]
        rfl
      · rw [List.length_eraseIdx, if_pos hi]
        omega
      · rw [upd_ne n2r.symm, upd_same, map_erase]
      · rw [upd_same, List.map_append]
        rfl
      · rw [upd_ne n2b.symm, upd_ne nb.symm]
        exact e3b
      · exact ((ta.tk (b7.kp.tk dra)).tk (tk_updL e1b)).tk (tk_updL e2c)
      · have : upd (upd H7 rr (.lst ((ra.map V.str).eraseIdx i))) r2 (.lst (be.map V.str ++ [.str y])) rb = some (.lst va) := by
          rw [upd_ne n2b.symm, upd_ne nb.symm]
          exact e3b
        rw [lenAt_of this, ← lna, lenAt_of e3a]
      · exact (dr7.updL e1b strs_nint).updL e2c strs_nint
      · have hb1 : b ≠ r2 := ne_none e n2H
        have hb2 : b ≠ rr := ne_none e nrr
        rw [upd_ne hb1, upd_ne hb2]
        exact b7.kp b o nb' (kpa b o nb' e)
    · obtain ⟨ra, be, y5, rfl, pm', bk, rk, e1a, e2a, ⟨va, e3a, ta⟩, lna, dra, kpa⟩ := pv
      refine ⟨_, rfl, .inl ⟨rfl, _, .of e3a⟩, _, rfl, r2, _, rfl, .inl ⟨.of e2a, fun p np => ?_⟩⟩
      obtain ⟨s8, e8⟩ := nxo (o := .tup (be.map V.str)) np
      have la := ta.len
      rw [List.length_map] at la
      have e3s := s8 _ _ e3a
      refine ⟨rb, _, _, rfl, rfl, e3s, ?_, ⟨ra, bs ++ [be], j + 2 + z, _, _, rfl, ?_, ?_, fun b hb => ?_, ?_, ?_, ?_, ?_, fun b o nb' e => ?_⟩, ?_⟩
      · exact len20k (by omega)
      · rw [List.flatten_append]
        have : [be].flatten = be := by simp
        rw [this]
        refine List.Perm.trans ?_ pm'
        rw [List.append_assoc]
        exact List.Perm.append_left _ List.perm_append_comm
      · rw [List.length_append]
        show bs.length + 1 ≤ 4
        omega
      · rcases List.mem_append.mp hb with h | h
        · exact b24 b h
        · rw [List.mem_singleton.mp h]
          omega
      · rw [upd_ne nb]
        exact s8 _ _ e1a
      · rw [List.map_append]
        exact LD.push e3s (ta.tk (Same.tk s8)) (.tup e8 (dtAll_strs be))
      · rw [List.length_append]
        show j + 2 + z ≤ 6 * (bs.length + 1)
        omega
      · refine ((dra.same s8).updL e3s (dtAll_nint (ta.tk (Same.tk s8)) fun z hz => ?_)).mono (by omega)
        obtain ⟨b, _, rfl⟩ := List.mem_map.mp hz
        exact fun i => fun z => nomatch z
      · rw [upd_ne (ne_none e nrbH)]
        exact s8 _ _ (kpa b o nb' e)
      · rw [lenAt_of upd_same, lenAt_of erb, List.length_append, lb, la]
        show 4 - (bs.length + 1) < 4 - bs.length
        omega
end
end Pb

namespace Pb
open PySem PySem.Spec PyProof.Rows L2 TL
/-! ### books -/
abbrev s_l_book : Stmt := top 28
abbrev n_l_book : List Str := ["_law_draw", "_law_many", "_law_names_here", "_law_pool", "_law_name", "_law_sections", "_law_marks_here", "_law_section_here", "_law_halts", "_law_badges", "_law_sort"]
abbrev p_l_book : List Str := ["_law_draw", "_law_many"]
theorem sc_l_book : FnScope n_l_book p_l_book (defScope s_l_book) := ⟨rfl, rfl, rfl, by decide +kernel, rfl, by decide +kernel, by decide +kernel⟩
abbrev Bdg := Str × Str × Int
def bdgD (b : Bdg) : PyData := .tuple [.str b.1, .str b.2.1, .int b.2.2]
structure Bk where
  secs : List Sec
  halts : List Str
  bes : List (List Str)
  bdg : List Bdg
def bookL (b : Bk) : List PyData := [.tuple (b.secs.map secD), .tuple (b.halts.map .str), .tuple (b.bes.map bsD), .tuple (b.bdg.map bdgD)]
def bookD (b : Bk) : PyData := .tuple (bookL b)
def sorts : List Str := ["length", "climb", "days", "sections"]
structure BdgOk (b : Bdg) : Prop where
  nm : Nm b.1
  sort : b.2.1 ∈ sorts
  lo : 1 ≤ b.2.2
  hi : b.2.2 ≤ 99999
structure BkOk (b : Bk) : Prop where
  ne : 1 ≤ b.secs.length
  few : b.secs.length ≤ 8
  nd : (b.secs.map (·.nm)).Nodup
  nms : ∀ s ∈ b.secs, Nm s.nm
  pool : ∃ ys : List Str, (∀ y ∈ ys, Nm y) ∧ ys.length ≤ 30 ∧ ∀ s ∈ b.secs, SecOk ys s
  hsub : ∀ h ∈ b.halts, ∃ s ∈ b.secs, h ∈ s.ms
  hfew : b.halts.length ≤ 20
  hrise : ∃ zs, b.halts.Sublist zs ∧ sortedS zs = true ∧ zs.Nodup
  bes : BsOk (b.secs.map (·.nm)) b.bes
  bfew : b.bdg.length ≤ 6
  bnd : (b.bdg.map (·.1)).Nodup
  bok : ∀ g ∈ b.bdg, BdgOk g
def spBook : Sp := fun vs H Q _ => ∃ (d : Addr) (m n : Nat), vs = [.ref d, .int (m : Nat)] ∧ Dr H d n ∧ n < 2 ^ 35 ∧ 1 ≤ m ∧ m ≤ 8 ∧ ∀ (b : Bk) (v : V) (H' : Hp), BkOk b → Dr H' d (n + 3000) → Kp d H H' → Dt H' v (bookD b) → Q v H'
theorem secs_of {ys nms : List Str} {ds : List PyData} (h : Sel False (fun (a : Str) e => ∃ s : Sec, s.nm = a ∧ SecOk ys s ∧ e = secD s) nms ds) : ∃ ss : List Sec, ds = ss.map secD ∧ nms = ss.map (·.nm) ∧ ∀ s ∈ ss, SecOk ys s :=
  h.choose (f := secD) (g := fun s : Sec => s.nm) (C := SecOk ys) id fun a d r => by
    obtain ⟨s, h1, h2, h3⟩ := r
    exact ⟨s, h3.symm, h1, h2⟩
section
variable {P : Program} {w : World} {K : PySem.W.Frag} {mg : Str → Option Value} {base : Heap}
theorem kn_book (D : Df K mg "_law_book" s_l_book) (B : BG mg) (k_l_next : Kn P w K mg base "_law_next" 2 ["_law_draw", "_law_many"] spNext) (k_l_names : Kn P w K mg base "_law_names" 3 p_l_names spNames) (k_l_section : Kn P w K mg base "_law_section" 4 p_l_section spSection) (k_l_picked : Kn P w K mg base "_law_picked" 3 p_l_picked spPicked) (k_l_besides : Kn P w K mg base "_law_besides" 3 p_l_besides spBesides) : Kn P w K mg base "_law_book" 5 p_l_book spBook := by
  refine D.kn sc_l_book (fun _ _ _ _ _ _ us hl => match us, hl with | [_, _], _ => rfl) (fun vs H Q E h => ?_) (fun f cdv A outer s H vs Q E gd hr h => ?_)
  · obtain ⟨d, m, n, rfl, _⟩ := h
    rfl
  · obtain ⟨d, m, n, rfl, dr, hn, m1, m8, q⟩ := h
    refine ⟨_, PSs.nox (pss_cons (ps_set (i := 2) sc_l_book.nd rfl (.inl rfl) (pe_kn k_l_names gd (hr.mono (by decide)) rfl (pa_cons (pv 0) (pa_cons (pv 1) pa_nil)))) (pss_cons (ps_set (i := 3) sc_l_book.nd rfl (.inr rfl) (pe_kn k_l_names gd (hr.mono (by decide)) rfl (pa_cons (pv 0) (pa_cons (pe_ix ix_list (pe_lst (pa_cons pe_int (pa_cons pe_int (pa_cons pe_int (pa_cons pe_int pa_nil))))) (pe_kn k_l_next gd (hr.mono (by decide)) rfl (pa_cons (pv 0) (pa_cons pe_int pa_nil))) (fun _ _ => rfl)) pa_nil)))) (pss_cons (ps_set (i := 5) sc_l_book.nd rfl (.inl rfl) (pe_callTy call_tuple_of rfl B.tuple bt_tuple (pa_cons (pe_lc (own := [("_law_name", 4)]) (g := gName 4) (tt := tYes) (te := tCall spSection [] E0 (tCons (tVar 0) (tCons (tVar 4) (tCons (tVar 3) (tNil))))) rfl sc_l_book.nd (pi_list (pv 2)) (blkOk_by (N := n_l_book) (sc := defScope s_l_book) (by decide +kernel)) (fun _ _ _ _ _ => (pg_name (i := 4) sc_l_book.nd rfl (.inl rfl))) (fun _ _ _ _ _ => pts_nil) (fun _ _ _ _ _ => (pe_kn k_l_section gd (hr.mono (by decide)) rfl (pa_cons (pv 0) (pa_cons (pv 4) (pa_cons (pv 3) pa_nil)))))) pa_nil))) (pss_cons (ps_set (i := 6) sc_l_book.nd rfl (.inl rfl) (pe_lst pa_nil)) (pss_cons (ps_for PassesOwn.never rfl (pi_tup (pv 5)) (pg_name (i := 7) sc_l_book.nd rfl (.inl rfl)) (pss_one (ps_expr (pe_bm PySem.F.plainAttrs_list PySem.F.slot_list_extend PySem.F.type_list_extend mt_extT (pv 6) (pa_cons (pe_ix ix_tup (pv 7) pe_int (fun _ _ => rfl)) pa_nil))))) (pss_cons (ps_set (i := 8) sc_l_book.nd rfl (.inl rfl) (pe_callTy call_tuple_of rfl B.tuple bt_tuple (pa_cons (pe_kn k_l_picked gd (hr.mono (by decide)) rfl (pa_cons (pv 0) (pa_cons (pe_sortSet rfl B.sorted rfl B.set (pv 6)) (pa_cons pe_int pa_nil)))) pa_nil))) (pss_cons (ps_set (i := 9) sc_l_book.nd rfl (.inl rfl) (pe_lst pa_nil)) (pss_cons (ps_for PassesOwn.never rfl (pi_list (pe_kn k_l_names gd (hr.mono (by decide)) rfl (pa_cons (pv 0) (pa_cons (pe_ix ix_list (pe_lst (pa_cons pe_int (pa_cons pe_int (pa_cons (pe_kn k_l_next gd (hr.mono (by decide)) rfl (pa_cons (pv 0) (pa_cons pe_int pa_nil))) pa_nil)))) (pe_kn k_l_next gd (hr.mono (by decide)) rfl (pa_cons (pv 0) (pa_cons pe_int pa_nil))) (fun _ _ => rfl)) pa_nil)))) (pg_name (i := 4) sc_l_book.nd rfl (.inl rfl)) (pss_cons (ps_set (i := 10) sc_l_book.nd rfl (.inl rfl) (pe_ix ix_list (pe_lst (pa_cons pe_str (pa_cons pe_str (pa_cons pe_str (pa_cons pe_str pa_nil))))) (pe_kn k_l_next gd (hr.mono (by decide)) rfl (pa_cons (pv 0) (pa_cons pe_int pa_nil))) (fun _ _ => rfl))) (pss_one (ps_expr (pe_bm PySem.F.plainAttrs_list PySem.F.slot_list_append PySem.F.type_list_append mt_append (pv 9) (pa_cons (pe_tup (pa_cons (pv 4) (pa_cons (pv 10) (pa_cons (pe_ix ix_list (pe_lst (pa_cons pe_int (pa_cons pe_int (pa_cons (pe_op op_add pe_int (pe_kn k_l_next gd (hr.mono (by decide)) rfl (pa_cons (pv 0) (pa_cons pe_int pa_nil)))) (pa_cons (pe_op op_add pe_int (pe_kn k_l_next gd (hr.mono (by decide)) rfl (pa_cons (pv 0) (pa_cons pe_int pa_nil)))) pa_nil))))) (pe_kn k_l_next gd (hr.mono (by decide)) rfl (pa_cons (pv 0) (pa_cons pe_int pa_nil))) (fun _ _ => rfl)) pa_nil)))) pa_nil)))))) (pss_one (ps_ret (pe_tup (pa_cons (pv 5) (pa_cons (pv 8) (pa_cons (pe_kn k_l_besides gd (hr.mono (by decide)) rfl (pa_cons (pv 0) (pa_cons (pv 2) pa_nil))) (pa_cons (pe_callTy call_tuple_of rfl B.tuple bt_tuple (pa_cons (pv 9) pa_nil)) pa_nil))))))))))))))), ?_⟩
    dsimp only [cxOf]
    -- names
    refine ⟨_, rfl, _, rfl, d, m, _, rfl, dr, by omega, by omega, fun rn nms H1 nrn ln nd nnm dr1 kp1 en => gName_go ?_⟩
    try dsimp only
    -- the pool
    refine ⟨_, rfl, (by show 4 ≤ sizeLine; decide), fun l1 k1 => ?_⟩
    obtain ⟨s1, e1⟩ := nxo (o := .lst [.int 3, .int 5, .int 8, .int 24]) k1
    have drs := dr1.same s1
    refine ⟨_, rfl, d, 4, _, rfl, drs, by decide, by decide, by omega, fun v3 H2 p3 q3 dr2 b2 => ?_⟩
    obtain ⟨x, hx, hat⟩ := at_list (xs := [.int 3, .int 5, .int 8, .int 24]) p3 q3
    have hz : ∃ z : Nat, x = .int (z : Nat) ∧ 2 ≤ z ∧ z ≤ 24 := by
      simp only [List.mem_cons, List.not_mem_nil, or_false] at hx
      rcases hx with e | e | e | e
      · exact ⟨3, e, by omega, by omega⟩
      · exact ⟨5, e, by omega, by omega⟩
      · exact ⟨8, e, by omega, by omega⟩
      · exact ⟨24, e, by omega, by omega⟩
    obtain ⟨z, rfl, hz2, hz24⟩ := hz
    have kp2 := kp1.trans ((Same.kp s1).trans b2.kp)
    have en2 := b2.kp.lst drs (s1 _ _ en)
    refine ⟨l1, _, _, _, rfl, rfl, .of (b2.kp.lst drs e1), hat, d, z, _, rfl, dr2, by omega, by omega, fun rp ys H3 nrp lp ndp ynm dr3 kp3' ep => gName_go ?_⟩
    try dsimp only
    clear hat hx p3 q3
    have kp3 := kp2.trans kp3'
    have en3 := kp3'.lst dr2 en2
    -- sections
    refine asg_go (cB_go (cons_go (lc_in ⟨_, rfl, rn, rfl, ⟨_, .of en3⟩, ?_⟩)))
    refine lc_genD (d := d) (c := 100) (S := False) (R := fun (a : Str) e => ∃ s : Sec, s.nm = a ∧ SecOk ys s ∧ e = secD s) (xs := nms) (f := .str) (walk_list (K := K) (a := rn) (xs := nms.map V.str)) (by rw [List.length_map]) (by rw [List.length_map]; omega) dr3 (fun H1 k => .of (k.lst dr3 en3)) (fun i a H1 x H2 ga k y => yAtK (dtAll_strs nms) dr3 ga k y) (fun a e r i => ?_) (fun k a x H4 N1 N0 ga kp4 dr4 dx n1 n0 => ⟨wiped, ?_⟩) fun H4 D4 ds kp4' nD4 dr4 lD sel => ?_
    · obtain ⟨s, _, _, e⟩ := r
      rw [e]
      exact fun z => nomatch z
    · have lk := (List.getElem?_eq_some_iff.mp ga).1
      have e := dx.str'
      subst e
      dsimp only [tYes]
      rw [if_pos rfl]
      exact ⟨_, rfl, _, gOwn (Nat.lt_of_sub_eq_succ rfl), _, rfl, d, rp, a, ys, _, rfl, dr4, by omega, kp4.lst dr3 ep, ndp, by omega, by omega, ynm, fun s v H' e1 so dr' kp' dt => n1 v _ H' kp' (dr'.mono (by omega)) ⟨s, e1, so, rfl⟩ dt⟩
    rw [List.length_map] at dr4
    obtain ⟨ss, rfl, en', sok⟩ := secs_of sel
    obtain ⟨vs, evs, tvs⟩ := lD
    refine ⟨D4, vs, rfl, .inl ⟨.of evs, fun ts nts => gName_go ?_⟩⟩
    try dsimp only
    obtain ⟨s5, e5⟩ := nxo (o := .tup vs) nts
    have dr5 := dr4.same s5
    have tv5 := tvs.tk (Same.tk s5)
    have kp5 := kp3.trans (kp4'.trans (Same.kp s5))
    have en5 := s5 _ _ (kp4'.lst dr3 en3)
    generalize upd H4 ts (.tup vs) = H5 at s5 e5 dr5 tv5 kp5 en5 ⊢
    have sl : ss.length = m := by
      rw [← ln, en', List.length_map]
    have vl : vs.length = ss.length := by
      rw [tvs.len, List.length_map]
    -- marks
    refine ⟨Nat.zero_le _, fun rm nrm => gName_go ?_⟩
    try dsimp only
    obtain ⟨s6, e6⟩ := nxo (o := .lst []) nrm
    have dr6 := dr5.same s6
    have nrmH : H rm = none := kp5.none_of (dr5.ne nrm) nrm
    have kp6 : Kp d H (upd H5 rm (.lst [])) := kp5.trans (Same.kp s6)
    have e56 := s6 _ _ e5
    have tv6 := tv5.tk (Same.tk s6)
    have en6 := s6 _ _ en5
    have rnm : rn ≠ rm := ne_none en5 nrm
    generalize upd H5 rm (.lst []) = H6 at s6 e6 dr6 kp6 e56 tv6 en6 ⊢
    refine ⟨_, rfl, ts, rfl, ⟨_, .of e56⟩, ?_⟩
    refine for_it (walk_tup (K := K) (a := ts) (xs := vs)) (fun k σ H' => ∃ (ms : List Str) (y : Option V), σ = [some (.ref d), some (.int (m : Nat)), some (.ref rn), some (.ref rp), none, some (.ref ts), some (.ref rm), y, none, none, none] ∧ ms.length ≤ 8 * k ∧ (∀ x ∈ ms, ∃ s ∈ ss, x ∈ s.ms) ∧ H' rm = some (.lst (ms.map V.str)) ∧ TK H6 H' ∧ H' rn = some (.lst (nms.map V.str)) ∧ Dr H' d (n + 20 * m + 1 + 20 * z + 100 * nms.length) ∧ Kp d H H') ⟨[], none, rfl, Nat.zero_le _, (fun _ h => nomatch h), e6, TK.refl _, en6, dr6, kp6⟩ (fun i σ H' _ pv => ?_) (fun k x σ Ha Hb hk pv y => ?_) (fun σ Ha pv => ?_)
    · obtain ⟨ms, y, _, _, _, _, tk, _⟩ := pv
      exact .of (tk _ _ e56)
    · obtain ⟨ms, y7, rfl, ml, msub, ema, tka, ena, dra, kpa⟩ := pv
      obtain ⟨rfl, gx⟩ := y
      refine gName_go ?_
      try dsimp only
      obtain ⟨dd, gd', dx⟩ := (tv6.tk tka).getV k x gx
      rw [List.getElem?_map] at gd'
      obtain ⟨sk, gs, rfl⟩ := Option.map_eq_some_iff.mp gd'
      have skm : sk ∈ ss := List.mem_of_getElem? gs
      obtain ⟨a, us, rfl, ea, ta⟩ := dx.tup'
      obtain ⟨_, _, rfl, d1, ta⟩ := ta.cons'
      obtain ⟨_, _, rfl, d2, ta⟩ := ta.cons'
      obtain ⟨am, um, rfl, eam, tam⟩ := d2.tup'
      have eum := tam.strs
      subst eum
      have fewk := (sok sk skm).ms.few
      have kl : k < ss.length := (List.getElem?_eq_some_iff.mp gs).1
      refine ⟨_, rfl, .inl ⟨rfl, _, .of ema⟩, _, rfl, a, _, 1, _, rfl, rfl, .of ea, atI_nat (j := 1) rfl, rm, am, _, _, rfl, rfl, ema, .of eam, ?_, ms ++ sk.ms, _, rfl, ?_, fun x hx => ?_, ?_, tka.trans (tk_updL ema), ?_, dra.updL ema strs_nint, fun b o nb e => ?_⟩
      · rw [List.length_map, List.length_map]
        exact Nat.le_of_lt (len20k (by omega))
      · rw [List.length_append]
        omega
      · rcases List.mem_append.mp hx with h | h
        · exact msub x h
        · exact ⟨sk, skm, h⟩
      · rw [upd_same, List.map_append]
      · rw [upd_ne rnm]
        exact ena
      · rw [upd_ne (ne_none e nrmH)]
        exact kpa b o nb e
    · obtain ⟨ms, y7, rfl, ml, msub, ema, tka, ena, dra, kpa⟩ := pv
      rw [vl] at ml
      -- halts
      dsimp only
      refine asg_go ?_
      refine cB_go (cons_go (call_go ?_))
      refine ⟨_, rfl, ?_⟩
      refine ⟨_, rfl, rm, ms, ys, rfl, .of ema, by omega, by omega, fun y hy => ?_, fun zs rz nz soz memz nrz => ?_⟩
      · obtain ⟨s, hs, hm⟩ := msub y hy
        exact (sok s hs).ms.sub y hm
      obtain ⟨s7, e7⟩ := nxo (o := .lst (zs.map V.str)) nrz
      have zl : zs.length ≤ 30 := by
        have := nodup_le zs ys nz fun z hz => by
          obtain ⟨s, hs, hm⟩ := msub z ((memz z).1 hz)
          exact (sok s hs).ms.sub z hm
        omega
      refine ⟨d, rz, zs, 20, _, rfl, dra.same s7, by omega, e7, by omega, fun rh hs H8 sub hl dr8 kp8 eh => ⟨rh, _, rfl, .inl ⟨.of eh, fun th nth => gName_go ?_⟩⟩⟩
      try dsimp only
      obtain ⟨s9, e9⟩ := nxo (o := .tup (hs.map V.str)) nth
      have dr9 := dr8.same s9
      have k79 : Kp d Ha (upd H8 th (.tup (hs.map V.str))) := (Same.kp s7).trans (kp8.trans (Same.kp s9))
      have kp9 := kpa.trans k79
      have tk9 : TK H6 (upd H8 th (.tup (hs.map V.str))) := tka.trans (k79.tk dra)
      have en9 := k79.lst dra ena
      generalize upd H8 th (.tup (hs.map V.str)) = H9 at s9 e9 dr9 k79 kp9 tk9 en9 ⊢
      -- badges
      refine ⟨Nat.zero_le _, fun rb nrb => gName_go ?_⟩
      try dsimp only
      obtain ⟨sb, eb⟩ := nxo (o := .lst []) nrb
      have drb := dr9.same sb
      have nrbH : H rb = none := kp9.none_of (dr9.ne nrb) nrb
      have kpb : Kp d H (upd H9 rb (.lst [])) := kp9.trans (Same.kp sb)
      have tkb : TK H6 (upd H9 rb (.lst [])) := tk9.trans (Same.tk sb)
      have e9b := sb _ _ e9
      have enb := sb _ _ en9
      have rnb : rn ≠ rb := ne_none en9 nrb
      generalize upd H9 rb (.lst []) = H10 at sb eb drb kpb tkb e9b enb ⊢
      refine ⟨_, rfl, _, rfl, d, 7, _, rfl, drb, by decide, by decide, by omega, fun v1 H11 p1 q1 dr11 b11 => ⟨(by show 3 ≤ sizeLine; decide), fun l2 k2 => ?_⟩⟩
      obtain ⟨s12, e12⟩ := nxo (o := .lst [.int 0, .int 6, .int v1]) k2
      have dr12 := dr11.same s12
      refine ⟨_, rfl, d, 3, _, rfl, dr12, by decide, by decide, by omega, fun v2 H13 p2 q2 dr13 b13 => ?_⟩
      obtain ⟨x, hx, hat⟩ := at_list (xs := [.int 0, .int 6, .int v1]) p2 q2
      have hz : ∃ z : Nat, x = .int (z : Nat) ∧ z ≤ 6 := by
        simp only [List.mem_cons, List.not_mem_nil, or_false] at hx
        rcases hx with e | e | e
        · exact ⟨0, e, by omega⟩
        · exact ⟨6, e, by omega⟩
        · exact ⟨v1.toNat, by rw [e, Int.toNat_of_nonneg (by omega)], by omega⟩
      obtain ⟨zb, rfl, hzb⟩ := hz
      have k13 := b11.kp.trans ((Same.kp s12).trans b13.kp)
      refine ⟨l2, _, _, _, rfl, rfl, .of (b13.kp.lst dr12 e12), hat, d, zb, _, rfl, dr13, by omega, by omega, fun rg gs H14 nrg lg gnd gnm dr14 kp14 eg => ⟨rg, rfl, ⟨_, .of eg⟩, ?_⟩⟩
      clear hat hx p2 q2
      have k14 := k13.trans kp14
      have eb14 := k14.lst drb eb
      have en14 := k14.lst drb enb
      have rgb : rg ≠ rb := fun z => by
        rw [z] at nrg
        rw [k13.lst drb eb] at nrg
        cases nrg
      refine for_it (walk_list (K := K) (a := rg) (xs := gs.map V.str)) (fun k σ H' => ∃ (bg : List Bdg) (y4 y7 y10 : Option V), σ = [some (.ref d), some (.int (m : Nat)), some (.ref rn), some (.ref rp), y4, some (.ref ts), some (.ref rm), y7, some (.ref th), some (.ref rb), y10] ∧ bg.map (·.1) = gs.take k ∧ (∀ g ∈ bg, BdgOk g) ∧ LD H' rb (bg.map bdgD) ∧ TK H10 H' ∧ H' rn = some (.lst (nms.map V.str)) ∧ H' rg = some (.lst (gs.map V.str)) ∧ Dr H' d (n + 20 * m + 1 + 20 * z + 100 * nms.length + 101 + 1 + 1 + 20 * zb + 4 * k) ∧ Kp d H H') ⟨[], _, _, _, rfl, rfl, (fun _ h => nomatch h), ⟨[], eb14, .nil⟩, k14.tk drb, en14, eg, dr14, kpb.trans k14⟩ (fun i σ H' _ pv => ?_) (fun k x σ Hc Hd hk pv y => ?_) (fun σ Hc pv => ?_)
      · obtain ⟨_, _, _, _, _, _, _, _, _, _, eg', _⟩ := pv
        exact .of eg'
      · obtain ⟨bg, y4, y7, y10, rfl, bn, bok, ⟨ub, eub, tub⟩, tkc, enc, egc, drc, kpc⟩ := pv
        obtain ⟨rfl, gx⟩ := y
        rw [List.getElem?_map] at gx
        obtain ⟨g, gg, rfl⟩ := Option.map_eq_some_iff.mp gx
        have hk' : k < gs.length := (List.getElem?_eq_some_iff.mp gg).1
        refine gName_go ?_
        try dsimp only
        refine ⟨(by show 4 ≤ sizeLine; decide), fun l3 k3 => ?_⟩
        obtain ⟨s15, e15⟩ := nxo (o := .lst (sorts.map V.str)) k3
        have dr15 := drc.same s15
        refine ⟨_, rfl, d, 4, _, rfl, dr15, by decide, by decide, by omega, fun v3 H16 p3 q3 dr16 b16 => ?_⟩
        obtain ⟨x, hx, hat⟩ := at_list (xs := sorts.map V.str) p3 q3
        obtain ⟨so, hso, rfl⟩ := List.mem_map.mp hx
        refine ⟨l3, _, _, _, rfl, rfl, .of (b16.kp.lst dr15 e15), hat, gName_go ?_⟩
        try dsimp only
        clear hat hx
        have k16 := (Same.kp s15).trans b16.kp
        have eub16 := k16.lst drc eub
        refine ⟨_, rfl, .inl ⟨rfl, _, .of eub16⟩, _, rfl, _, rfl, _, rfl, d, 99999, _, rfl, dr16, by decide, by decide, by omega, fun v4 H17 p4 q4 dr17 b17 => ?_⟩
        refine ⟨_, _, rfl, rfl, _, rfl, d, 9, _, rfl, dr17, by decide, by decide, by omega, fun v5 H18 p5 q5 dr18 b18 => ⟨_, _, rfl, rfl, (by show 4 ≤ sizeLine; decide), fun l4 k4 => ?_⟩⟩
        obtain ⟨s19, e19⟩ := nxo (o := .lst [.int 1, .int 99999, .int (1 + v4), .int (1 + v5)]) k4
        have dr19 := dr18.same s19
        refine ⟨_, rfl, d, 4, _, rfl, dr19, by decide, by decide, by omega, fun v6 H20 p6 q6 dr20 b20 => ?_⟩
        obtain ⟨x, hx, hat⟩ := at_list (xs := [.int 1, .int 99999, .int (1 + v4), .int (1 + v5)]) p6 q6
        have hz : ∃ w : Int, x = .int w ∧ 1 ≤ w ∧ w ≤ 99999 := by
          simp only [List.mem_cons, List.not_mem_nil, or_false] at hx
          rcases hx with e | e | e | e
          · exact ⟨_, e, by omega, by omega⟩
          · exact ⟨_, e, by omega, by omega⟩
          · exact ⟨_, e, by omega, by omega⟩
          · exact ⟨_, e, by omega, by omega⟩
        obtain ⟨wn, rfl, w1, w9⟩ := hz
        refine ⟨l4, _, _, _, rfl, rfl, .of (b20.kp.lst dr19 e19), hat, (by show 3 ≤ sizeLine; decide), fun t nt => ?_⟩
        obtain ⟨st, et⟩ := nxo (o := .tup [.str g, .str so, .int wn]) nt
        have k20 := k16.trans (b17.kp.trans (b18.kp.trans ((Same.kp s19).trans (b20.kp.trans (Same.kp st)))))
        have eubt := k20.lst drc eub
        have tubt := tub.tk (k20.tk drc)
        have drt := dr20.same st
        refine ⟨rb, _, _, rfl, rfl, eubt, ?_, bg ++ [(g, so, wn)], _, _, _, rfl, ?_, fun x hx => ?_, ?_, tkc.trans ((k20.tk drc).trans (tk_updL eubt)), ?_, ?_, ?_, fun b o nb e => ?_⟩
        · have l1 := tub.len
          have l2 := congrArg List.length bn
          rw [List.length_map, List.length_take] at l2
          rw [List.length_map] at l1
          exact len20k (by omega)
        · rw [List.map_append, bn, List.take_add_one, gg]
          rfl
        · rcases List.mem_append.mp hx with h | h
          · exact bok x h
          · rw [List.mem_singleton.mp h]
            exact ⟨gnm g (List.mem_of_getElem? gg), hso, w1, w9⟩
        · rw [List.map_append]
          exact LD.push eubt tubt (.tup et (.cons (.str _) (.cons (.str _) (.cons (.int _) .nil))))
        · rw [upd_ne rnb]
          exact k20.lst drc enc
        · rw [upd_ne rgb]
          exact k20.lst drc egc
        · refine (drt.updL eubt (dtAll_nint tubt fun z hz => ?_)).mono (by omega)
          obtain ⟨b, _, rfl⟩ := List.mem_map.mp hz
          exact fun i => fun z => nomatch z
        · rw [upd_ne (ne_none e nrbH)]
          exact k20 b o nb (kpc b o nb e)
      · obtain ⟨bg, y4, y7, y10, rfl, bn, bok, ⟨ub, eub, tub⟩, tkc, enc, egc, drc, kpc⟩ := pv
        rw [List.length_map, List.take_length] at bn
        rw [List.length_map] at drc
        -- the book
        refine ⟨_, rfl, _, rfl, _, rfl, _, rfl, d, rn, nms, _, rfl, drc, by omega, enc, nd, by omega, fun bs vb H21 bsok dr21 kp21 dtb => ?_⟩
        have eub21 := kp21.lst drc eub
        refine ⟨_, rfl, rb, ub, rfl, .inl ⟨.of eub21, fun tb ntb => ⟨(by show 4 ≤ sizeLine; decide), fun pb npb => ?_⟩⟩⟩
        obtain ⟨s22, e22⟩ := nxo (o := .tup ub) ntb
        obtain ⟨s23, e23⟩ := nxo (o := .tup [.ref ts, .ref th, vb, .ref tb]) npb
        have t23 := (Same.tk s22).trans (Same.tk s23)
        have tkz : TK H10 (upd (upd H21 tb (.tup ub)) pb (.tup [.ref ts, .ref th, vb, .ref tb])) := tkc.trans ((kp21.tk drc).trans t23)
        have bfew : bg.length ≤ 6 := by
          have := congrArg List.length bn
          rw [List.length_map] at this
          omega
        refine q ⟨ss, hs, bs, bg⟩ _ _ ⟨by show 1 ≤ ss.length; omega, by show ss.length ≤ 8; omega, ?_, fun s hs' => ?_, ⟨ys, ynm, by omega, sok⟩, fun h hh => msub h ((memz h).1 (sub.subset hh)), hl, ⟨zs, sub, soz, nz⟩, ?_, bfew, ?_, bok⟩ (((dr21.same s22).same s23).mono (by omega)) (kpc.trans (kp21.trans (Same.kp (s22.trans s23)))) (.tup e23 (.cons (.tup ((tkb.trans tkz) _ _ e56) (tv6.tk (tkb.trans tkz))) (.cons (.tup (tkz _ _ e9b) (dtAll_strs hs)) (.cons (dtb.tk t23) (.cons (.tup (s23 _ _ e22) (tub.tk ((kp21.tk drc).trans t23))) .nil)))))
        · show (ss.map (·.nm)).Nodup
          rw [← en']
          exact nd
        · refine nnm _ ?_
          rw [en']
          exact List.mem_map.mpr ⟨s, hs', rfl⟩
        · show BsOk (ss.map (·.nm)) bs
          rw [← en']
          exact bsok
        · show (bg.map (·.1)).Nodup
          rw [bn]
          exact gnd
end
end Pb

namespace Pb
open PySem PySem.Spec PyProof.Rows L2 TL
/-! ### pieces, wholes: the program's and the law's -/
abbrev s_ways_of : Stmt := top 10
abbrev n_ways_of : List Str := ["marks", "one", "other"]
abbrev p_ways_of : List Str := ["marks"]
theorem sc_ways_of : FnScope n_ways_of p_ways_of (defScope s_ways_of) := ⟨rfl, rfl, rfl, by decide +kernel, rfl, by decide +kernel, by decide +kernel⟩
abbrev s_pieces_of : Stmt := top 11
abbrev n_pieces_of : List Str := ["section", "one", "other"]
abbrev p_pieces_of : List Str := ["section"]
theorem sc_pieces_of : FnScope n_pieces_of p_pieces_of (defScope s_pieces_of) := ⟨rfl, rfl, rfl, by decide +kernel, rfl, by decide +kernel, by decide +kernel⟩
abbrev s_whole_of : Stmt := top 12
abbrev n_whole_of : List Str := ["section", "stretches", "length", "up", "down", "stretch"]
abbrev p_whole_of : List Str := ["section"]
theorem sc_whole_of : FnScope n_whole_of p_whole_of (defScope s_whole_of) := ⟨rfl, rfl, rfl, by decide +kernel, rfl, by decide +kernel, by decide +kernel⟩
abbrev s_l_pieces : Stmt := top 29
abbrev n_l_pieces : List Str := ["_law_section_here", "_law_found", "_law_k", "_law_here", "_law_there"]
abbrev p_l_pieces : List Str := ["_law_section_here"]
theorem sc_l_pieces : FnScope n_l_pieces p_l_pieces (defScope s_l_pieces) := ⟨rfl, rfl, rfl, by decide +kernel, rfl, by decide +kernel, by decide +kernel⟩
abbrev s_l_whole : Stmt := top 30
abbrev n_l_whole : List Str := ["_law_section_here", "_law_k", "_law_stretch_here"]
abbrev p_l_whole : List Str := ["_law_section_here"]
theorem sc_l_whole : FnScope n_l_whole p_l_whole (defScope s_l_whole) := ⟨rfl, rfl, rfl, by decide +kernel, rfl, by decide +kernel, by decide +kernel⟩
theorem atI_nat' {xs : List V} {v : Int} {j : Nat} {x : V} (e : v = (j : Nat)) (h : xs[j]? = some x) : atI xs v = some x := by
  subst e
  exact atI_nat h
theorem walk_zipT {K : PySem.W.Frag} {a b : Addr} {xs ys : List V} {n : Nat} (hn : n = min xs.length ys.length) : Walk (RZ.ItzT K a b) n (fun H => SqT K H a xs ∧ SqT K H b ys) (YPair (fun i => xs[i]?) (fun i => ys[i]?)) := by
  subst hn
  refine ⟨fun i _ hi q => ?_, fun _ q => ⟨xs, ys, q.1, q.2, by omega⟩, fun i H v H' _ q y => ?_⟩
  · have h1 : i < xs.length := by omega
    have h2 : i < ys.length := by omega
    exact ⟨xs, ys, xs[i], ys[i], q.1, q.2, by simp [h1], by simp [h2]⟩
  · obtain ⟨T, x, z, h1, h2, h3, h4, h5⟩ := y
    exact ⟨T, x, z, h1, h2, h3, h4 xs q.1, h5 ys q.2⟩
def mmD (t : Str × Str) : PyData := prD (minS t.1 t.2, maxS t.1 t.2)
abbrev Pc := Str × Str × Str
def pcD (p : Pc) : PyData := .tuple [.str p.1, .str p.2.1, .str p.2.2]
def pcs (s : Sec) : List Pc := (waysL s.ms).map fun t => (s.nm, minS t.1 t.2, maxS t.1 t.2)
def sums (ts : List Tri) : Tri := ((ts.map (·.1)).sum, (ts.map (·.2.1)).sum, (ts.map (·.2.2)).sum)
def spWays : Sp := fun vs H Q _ => ∃ (v : V) (ms : List Str), vs = [v] ∧ Dt H v (.tuple (ms.map .str)) ∧ 1 ≤ ms.length ∧ ms.length ≤ 1000 ∧ ∀ (H' : Hp) (r : Addr), Same H H' → H r = none → LD H' r ((waysL ms).map mmD) → Q (.ref r) H'
def spPieces : Sp := fun vs H Q _ => ∃ (v : V) (s : Sec), vs = [v] ∧ Dt H v (secD s) ∧ s.ms.length = s.ts.length + 1 ∧ s.ms.length ≤ 1000 ∧ ∀ (H' : Hp) (r : Addr), Same H H' → H r = none → LD H' r ((pcs s).map pcD) → Q (.ref r) H'
def spWhole : Sp := fun vs H Q _ => ∃ (v : V) (s : Sec), vs = [v] ∧ Dt H v (secD s) ∧ s.ts.length ≤ 1000 ∧ ∀ (H' : Hp) (v' : V), Same H H' → Dt H' v' (triD (sums s.ts)) → Q v' H'
theorem cut_tail (xs : List V) (h : 1 ≤ xs.length) : cutV xs (some 1) none = xs.tail := by
  unfold cutV
  have e : HT.sIx xs.length 0 (some ((1 : Nat) : Int)) = min 1 xs.length := HT.sIx_nat ..
  have e2 : HT.sIx xs.length 0 (some 1) = min 1 xs.length := e
  rw [e2, Nat.min_eq_left h]
  show (xs.drop 1).take (xs.length - 1) = xs.tail
  rw [List.drop_one, List.take_of_length_le (by rw [List.length_tail]; omega)]
theorem secD_inv {H : Hp} {v : V} {s : Sec} (h : Dt H v (secD s)) : ∃ a b c ts, v = .ref a ∧ H a = some (.tup [.str s.nm, .ref b, .ref c]) ∧ H b = some (.tup (s.ms.map V.str)) ∧ H c = some (.tup ts) ∧ DtAll H ts (s.ts.map triD) := by
  obtain ⟨a, us, rfl, ea, t⟩ := h.tup'
  obtain ⟨_, _, rfl, d1, t⟩ := t.cons'
  obtain ⟨_, _, rfl, d2, t⟩ := t.cons'
  obtain ⟨_, _, rfl, d3, t⟩ := t.cons'
  have e := t.nil'
  subst e
  have e1 := d1.str'
  subst e1
  obtain ⟨b, um, rfl, eb, tb⟩ := d2.tup'
  have e2 := tb.strs
  subst e2
  obtain ⟨c, ut, rfl, ec, tc⟩ := d3.tup'
  exact ⟨a, b, c, ut, rfl, ea, eb, ec, tc⟩
theorem triD_inv {H : Hp} {v : V} {t : Tri} (h : Dt H v (triD t)) : ∃ a, v = .ref a ∧ H a = some (.tup [.int t.1, .int t.2.1, .int t.2.2]) := by
  obtain ⟨a, us, rfl, ea, u⟩ := h.tup'
  have e : us = [t.1, t.2.1, t.2.2].map V.int := u.ints
  subst e
  exact ⟨a, rfl, ea⟩
section
variable {P : Program} {w : World} {K : PySem.W.Frag} {mg : Str → Option Value} {base : Heap}
theorem kn_ways (D : Df K mg "ways_of" s_ways_of) (B : BG mg) : Kn P w K mg base "ways_of" 1 p_ways_of spWays := by
  refine D.kn sc_ways_of (fun _ _ _ _ _ _ us hl => match us, hl with | [_], _ => rfl) (fun vs H Q E h => ?_) (fun f cdv A outer s H vs Q E gd hr h => ?_)
  · obtain ⟨v, ms, rfl, _⟩ := h
    rfl
  · obtain ⟨v, ms, rfl, dv, m1, m9, q⟩ := h
    refine ⟨_, PSs.nox (pss_one (ps_ret (pe_lc (own := [("one", 1), ("other", 2)]) (g := gTup K 2 (gCons (gName 1) (gCons (gName 2) (gNil)))) (tt := tYes) (te := tTup (tCons (tCB rMinS (tCons (tVar 1) (tCons (tVar 2) (tNil)))) (tCons (tCB rMaxS (tCons (tVar 1) (tCons (tVar 2) (tNil)))) (tNil)))) rfl sc_ways_of.nd (RZ.pi_zipA rfl B.zip (pa_cons (pv 0) (pa_cons (pe_slice sl_tupA (pv 0) (po_some pe_int) po_none) pa_nil))) (blkOk_by (N := n_ways_of) (sc := defScope s_ways_of) (by decide +kernel)) (fun _ _ _ _ _ => (pg_tup rfl (pgs_cons (pg_name (i := 1) sc_ways_of.nd rfl (.inl rfl)) (pgs_cons (pg_name (i := 2) sc_ways_of.nd rfl (.inl rfl)) pgs_nil)))) (fun _ _ _ _ _ => pts_nil) (fun _ _ _ _ _ => (pe_tup (pa_cons (pe_callB (call_minS rfl) rfl B.min bt_min (pa_cons (pv 1) (pa_cons (pv 2) pa_nil))) (pa_cons (pe_callB (call_maxS rfl) rfl B.max bt_max (pa_cons (pv 1) (pa_cons (pv 2) pa_nil))) pa_nil))))))), ?_⟩
    dsimp only [cxOf]
    obtain ⟨a, um, rfl, ea, ta⟩ := dv.tup'
    have e2 := ta.strs
    subst e2
    refine ret_go (lc_in ⟨_, rfl, _, rfl, 1, rfl, a, _, rfl, .of ea, fun z => ?_, fun _ p np => ?_⟩)
    · exfalso
      have e : HT.sIx (ms.map V.str).length 0 (some ((1 : Nat) : Int)) = min 1 (ms.map V.str).length := HT.sIx_nat ..
      have z1 : HT.sIx (ms.map V.str).length 0 (some 1) = 0 := z.1
      have e' : HT.sIx (ms.map V.str).length 0 (some 1) = min 1 (ms.map V.str).length := e
      rw [e', List.length_map] at z1
      omega
    rw [cut_tail _ (by rw [List.length_map]; exact m1)]
    obtain ⟨s1, e1⟩ := nxo (o := .tup (ms.map V.str).tail) np
    refine ⟨a, p, _, _, rfl, .inr ⟨.of (s1 _ _ ea), .of e1, ?_⟩⟩
    have eT : (ms.map V.str).tail = ms.tail.map V.str := by cases ms <;> rfl
    refine lc_gen (xs := waysL ms) (f := prD) (p := fun _ => true) (gd := mmD) (walk_zipT (K := K) (a := a) (b := p) (xs := ms.map V.str) (ys := (ms.map V.str).tail) rfl) ?_ ?_ (fun H1 s => ⟨.of (s _ _ (s1 _ _ ea)), .of (s _ _ e1)⟩) (fun i t H1 x H2 ga sm y => ?_) (fun t x H1 N1 N0 ht sm dx n1 n0 => ?_) fun H' D' sm nD l => ?_
    · unfold waysL
      rw [List.length_zip, List.length_map, List.length_tail, List.length_tail, List.length_map]
    · rw [List.length_map]
      omega
    · obtain ⟨T, x1, y1, rfl, nT, rfl, g1, g2⟩ := y
      obtain ⟨sT, eT'⟩ := nxo (o := .tup [x1, y1]) nT
      refine ⟨sT, ?_⟩
      dsimp only at g1 g2
      rw [eT] at g2
      have ga' : (ms.zip ms.tail)[i]? = some t := ga
      rw [List.getElem?_zip_eq_some] at ga'
      rw [List.getElem?_map, ga'.1] at g1
      rw [List.getElem?_map, ga'.2] at g2
      cases g1
      cases g2
      exact .tup eT' (.cons (.str _) (.cons (.str _) .nil))
    · obtain ⟨T, us, rfl, eT', tT⟩ := dx.tup'
      have eu : us = [t.1, t.2].map V.str := tT.strs
      subst eu
      refine ⟨T, _, rfl, .of eT', rfl, _, _, rfl, _, _, rfl, rfl, wiped2 (by decide), ?_⟩
      dsimp only [tYes]
      rw [if_pos rfl]
      refine ⟨_, gOwn2 (Nat.lt_of_sub_eq_succ rfl) (by decide), _, gOwn2' (Nat.lt_of_sub_eq_succ rfl), _, _, rfl, _, gOwn2 (Nat.lt_of_sub_eq_succ rfl) (by decide), _, gOwn2' (Nat.lt_of_sub_eq_succ rfl), _, _, rfl, (by show 2 ≤ sizeLine; decide), fun u nu => ?_⟩
      obtain ⟨su, eu⟩ := nxo (o := .tup [.str (minS t.1 t.2), .str (maxS t.1 t.2)]) nu
      exact n1 _ _ su rfl (.tup eu (.cons (.str _) (.cons (.str _) .nil)))
    · rw [List.filter_eq_self.mpr (fun _ _ => rfl)] at l
      exact q H' D' (s1.trans sm) (same_none s1 nD) l
theorem kn_pieces (D : Df K mg "pieces_of" s_pieces_of) (B : BG mg) (k_ways_of : Kn P w K mg base "ways_of" 1 p_ways_of spWays) : Kn P w K mg base "pieces_of" 2 p_pieces_of spPieces := by
  refine D.kn sc_pieces_of (fun _ _ _ _ _ _ us hl => match us, hl with | [_], _ => rfl) (fun vs H Q E h => ?_) (fun f cdv A outer s H vs Q E gd hr h => ?_)
  · obtain ⟨v, ms, rfl, _⟩ := h
    rfl
  · obtain ⟨v, sc, rfl, dv, ml, m9, q⟩ := h
    refine ⟨_, PSs.nox (pss_one (ps_ret (pe_lc (own := [("one", 1), ("other", 2)]) (g := gTup K 2 (gCons (gName 1) (gCons (gName 2) (gNil)))) (tt := tYes) (te := tTup (tCons (tOp (rIxT K) (tVar 0) (tC (.int 0))) (tCons (tVar 1) (tCons (tVar 2) (tNil))))) rfl sc_pieces_of.nd (pi_list (pe_kn k_ways_of gd (hr.mono (by decide)) rfl (pa_cons (pe_ix ix_tup (pv 0) pe_int (fun _ _ => rfl)) pa_nil))) (blkOk_by (N := n_pieces_of) (sc := defScope s_pieces_of) (by decide +kernel)) (fun _ _ _ _ _ => (pg_tup rfl (pgs_cons (pg_name (i := 1) sc_pieces_of.nd rfl (.inl rfl)) (pgs_cons (pg_name (i := 2) sc_pieces_of.nd rfl (.inl rfl)) pgs_nil)))) (fun _ _ _ _ _ => pts_nil) (fun _ _ _ _ _ => (pe_tup (pa_cons (pe_ix ix_tup (pv 0) pe_int (fun _ _ => rfl)) (pa_cons (pv 1) (pa_cons (pv 2) pa_nil)))))))), ?_⟩
    dsimp only [cxOf]
    obtain ⟨a, b, c, ts, rfl, ea, eb, ec, tc⟩ := secD_inv dv
    refine ret_go (lc_in ⟨_, rfl, a, _, 1, _, rfl, rfl, .of ea, atI_nat (j := 1) rfl, _, sc.ms, rfl, .tup eb (dtAll_strs _), by omega, m9, fun H1 r s1 nr lr => ?_⟩)
    obtain ⟨us, eu, tu⟩ := lr
    refine ⟨r, rfl, ⟨_, .of eu⟩, ?_⟩
    refine lc_lst (K := K) (xs := waysL sc.ms) (f := mmD) (p := fun _ => true) (gd := fun t => pcD (sc.nm, minS t.1 t.2, maxS t.1 t.2)) eu tu ?_ (fun t x H2 N1 N0 ht sm dx n1 n0 => ?_) fun H' D' sm nD l => ?_
    · rw [← waysL_get, List.length_map, List.length_range]
      omega
    · obtain ⟨T, us, rfl, eT', tT⟩ := dx.tup'
      have eu : us = [minS t.1 t.2, maxS t.1 t.2].map V.str := tT.strs
      subst eu
      refine ⟨T, _, rfl, .of eT', rfl, _, _, rfl, _, _, rfl, rfl, wiped2 (by decide), ?_⟩
      dsimp only [tYes]
      rw [if_pos rfl]
      refine ⟨_, gOth2 (σ := [some (.ref a), none, none]) rfl (by decide) (by decide), a, _, 0, _, rfl, rfl, .of (sm _ _ (s1 _ _ ea)), atI_nat (j := 0) rfl, _, gOwn2 (Nat.lt_of_sub_eq_succ rfl) (by decide), _, gOwn2' (Nat.lt_of_sub_eq_succ rfl), (by show 3 ≤ sizeLine; decide), fun u nu => ?_⟩
      obtain ⟨su, eu⟩ := nxo (o := .tup [.str sc.nm, .str (minS t.1 t.2), .str (maxS t.1 t.2)]) nu
      exact n1 _ _ su rfl (.tup eu (.cons (.str _) (.cons (.str _) (.cons (.str _) .nil))))
    · rw [List.filter_eq_self.mpr (fun _ _ => rfl)] at l
      refine q H' D' (s1.trans sm) (same_none s1 nD) ?_
      unfold pcs
      rw [List.map_map]
      exact l
theorem lc_col {σ : L2.St} {H : Hp} {Q : VK} {i j : Nat} {c : Addr} {us : List V} {ts : List Tri} {k : Int} {g : Tri → Int} (hj : σ[j]? = some (some (.ref c))) (hi : i < σ.length) (ec : H c = some (.tup us)) (tc : DtAll H us (ts.map triD)) (tl' : ts.length ≤ 1000) (hg : ∀ t : Tri, atI [V.int t.1, .int t.2.1, .int t.2.2] k = some (.int (g t)))
    (q : ∀ H' D, Same H H' → H D = none → H' D = some (.lst ((ts.map g).map V.int)) → Q (.ref D) H') : tLc (iTup K (tVar j)) (gName i) tYes (tOp (rIxT K) (tVar i) (tC (.int k))) [i] σ H Q := by
  refine lc_in ⟨_, hj, c, rfl, ⟨_, .of ec⟩, ?_⟩
  refine lc_tup (K := K) (xs := ts) (f := triD) (p := fun _ => true) (gd := fun t => .int (g t)) ec tc (by omega) (fun t x H1 N1 N0 ht sm dx n1 n0 => ⟨wiped, ?_⟩) fun H' D' sm nD l => ?_
  · obtain ⟨T, rfl, eT⟩ := triD_inv dx
    dsimp only [tYes]
    rw [if_pos rfl]
    exact ⟨_, gOwn hi, T, _, k, _, rfl, rfl, .of eT, hg t, n1 _ _ (Same.refl _) rfl (.int _)⟩
  · rw [List.filter_eq_self.mpr (fun _ _ => rfl)] at l
    obtain ⟨vs, e, t⟩ := l
    have e2 : ts.map (fun t => PyData.int (g t)) = (ts.map g).map .int := by rw [List.map_map]; rfl
    rw [e2] at t
    rw [t.ints] at e
    exact q H' D' sm nD e
theorem kn_whole (D : Df K mg "whole_of" s_whole_of) (B : BG mg) : Kn P w K mg base "whole_of" 1 p_whole_of spWhole := by
  refine D.kn sc_whole_of (fun _ _ _ _ _ _ us hl => match us, hl with | [_], _ => rfl) (fun vs H Q E h => ?_) (fun f cdv A outer s H vs Q E gd hr h => ?_)
  · obtain ⟨v, ms, rfl, _⟩ := h
    rfl
  · obtain ⟨v, sc, rfl, dv, ml, q⟩ := h
    refine ⟨_, PSs.nox (pss_cons (ps_set (i := 1) sc_whole_of.nd rfl (.inl rfl) (pe_ix ix_tup (pv 0) pe_int (fun _ _ => rfl))) (pss_cons (ps_set (i := 2) sc_whole_of.nd rfl (.inl rfl) (pe_callB (cr_sum rfl) rfl B.sum bt_sum (pa_cons (pe_lc (own := [("stretch", 5)]) (g := gName 5) (tt := tYes) (te := tOp (rIxT K) (tVar 5) (tC (.int 0))) rfl sc_whole_of.nd (pi_tup (pv 1)) (blkOk_by (N := n_whole_of) (sc := defScope s_whole_of) (by decide +kernel)) (fun _ _ _ _ _ => (pg_name (i := 5) sc_whole_of.nd rfl (.inl rfl))) (fun _ _ _ _ _ => pts_nil) (fun _ _ _ _ _ => (pe_ix ix_tup (pv 5) pe_int (fun _ _ => rfl)))) pa_nil))) (pss_cons (ps_set (i := 3) sc_whole_of.nd rfl (.inl rfl) (pe_callB (cr_sum rfl) rfl B.sum bt_sum (pa_cons (pe_lc (own := [("stretch", 5)]) (g := gName 5) (tt := tYes) (te := tOp (rIxT K) (tVar 5) (tC (.int 1))) rfl sc_whole_of.nd (pi_tup (pv 1)) (blkOk_by (N := n_whole_of) (sc := defScope s_whole_of) (by decide +kernel)) (fun _ _ _ _ _ => (pg_name (i := 5) sc_whole_of.nd rfl (.inl rfl))) (fun _ _ _ _ _ => pts_nil) (fun _ _ _ _ _ => (pe_ix ix_tup (pv 5) pe_int (fun _ _ => rfl)))) pa_nil))) (pss_cons (ps_set (i := 4) sc_whole_of.nd rfl (.inl rfl) (pe_callB (cr_sum rfl) rfl B.sum bt_sum (pa_cons (pe_lc (own := [("stretch", 5)]) (g := gName 5) (tt := tYes) (te := tOp (rIxT K) (tVar 5) (tC (.int 2))) rfl sc_whole_of.nd (pi_tup (pv 1)) (blkOk_by (N := n_whole_of) (sc := defScope s_whole_of) (by decide +kernel)) (fun _ _ _ _ _ => (pg_name (i := 5) sc_whole_of.nd rfl (.inl rfl))) (fun _ _ _ _ _ => pts_nil) (fun _ _ _ _ _ => (pe_ix ix_tup (pv 5) pe_int (fun _ _ => rfl)))) pa_nil))) (pss_one (ps_ret (pe_tup (pa_cons (pv 2) (pa_cons (pv 3) (pa_cons (pv 4) pa_nil)))))))))), ?_⟩
    dsimp only [cxOf]
    obtain ⟨a, b, c, ts, rfl, ea, eb, ec, tc⟩ := secD_inv dv
    refine ⟨_, rfl, a, _, 2, _, rfl, rfl, .of ea, atI_nat (j := 2) rfl, gName_go ?_⟩
    try dsimp only
    refine asg_go (cB_go (cons_go (lc_col (K := K) (g := fun t => t.1) rfl (Nat.lt_of_sub_eq_succ rfl) ec tc ml (fun t => atI_nat (j := 0) rfl) fun H1 D1 s1 n1 e1 => ⟨D1, _, rfl, .of e1, gName_go ?_⟩)))
    try dsimp only
    refine asg_go (cB_go (cons_go (lc_col (K := K) (g := fun t => t.2.1) rfl (Nat.lt_of_sub_eq_succ rfl) (s1 _ _ ec) (tc.tk (Same.tk s1)) ml (fun t => atI_nat (j := 1) rfl) fun H2 D2 s2 n2 e2 => ⟨D2, _, rfl, .of e2, gName_go ?_⟩)))
    try dsimp only
    refine asg_go (cB_go (cons_go (lc_col (K := K) (g := fun t => t.2.2) rfl (Nat.lt_of_sub_eq_succ rfl) (s2 _ _ (s1 _ _ ec)) (tc.tk (Same.tk (s1.trans s2))) ml (fun t => atI_nat (j := 2) rfl) fun H3 D3 s3 n3 e3 => ⟨D3, _, rfl, .of e3, gName_go ?_⟩)))
    try dsimp only
    refine ⟨_, rfl, _, rfl, _, rfl, (by show 3 ≤ sizeLine; decide), fun p np => ?_⟩
    obtain ⟨s4, e4⟩ := nxo (o := .tup [.int (sums sc.ts).1, .int (sums sc.ts).2.1, .int (sums sc.ts).2.2]) np
    exact q _ _ (s1.trans (s2.trans (s3.trans s4))) (.tup e4 (.cons (.int _) (.cons (.int _) (.cons (.int _) .nil))))
theorem lt_or {x y : Str} (h : ¬ x.cps.toList < y.cps.toList) : minS x y = y ∧ maxS x y = x := by
  unfold minS maxS
  rw [if_neg h]
  by_cases c : y.cps.toList < x.cps.toList
  · rw [if_pos c]
    exact ⟨rfl, rfl⟩
  · rw [if_neg c]
    have e : x.cps.toList = y.cps.toList := List.le_antisymm c h
    have e2 : x = y := by
      have a : ofL (tl x) = ofL (tl y) := congrArg ofL e
      rw [ofL_tl, ofL_tl] at a
      exact a
    exact ⟨e2, rfl⟩
theorem lt_is {x y : Str} (h : x.cps.toList < y.cps.toList) : minS x y = x ∧ maxS x y = y := by
  unfold minS maxS
  rw [if_pos h, if_neg (List.lt_asymm h)]
  exact ⟨rfl, rfl⟩
theorem pcs_take (s : Sec) (k : Nat) (h : k + 1 < s.ms.length) : (pcs s).take (k + 1) = (pcs s).take k ++ [(s.nm, minS (s.ms.getD k "") (s.ms.getD (k + 1) ""), maxS (s.ms.getD k "") (s.ms.getD (k + 1) ""))] := by
  have e : (pcs s)[k]? = some (s.nm, minS (s.ms.getD k "") (s.ms.getD (k + 1) ""), maxS (s.ms.getD k "") (s.ms.getD (k + 1) "")) := by
    unfold pcs
    rw [← waysL_get, List.map_map, List.getElem?_map, List.getElem?_range (by omega)]
    rfl
  rw [List.take_add_one, e]
  rfl
theorem pcs_len (s : Sec) : (pcs s).length = s.ms.length - 1 := by
  unfold pcs
  rw [← waysL_get, List.length_map, List.length_map, List.length_range]
theorem kn_lpieces (D : Df K mg "_law_pieces" s_l_pieces) (B : BG mg) : Kn P w K mg base "_law_pieces" 1 p_l_pieces spPieces := by
  refine D.kn sc_l_pieces (fun _ _ _ _ _ _ us hl => match us, hl with | [_], _ => rfl) (fun vs H Q E h => ?_) (fun f cdv A outer s H vs Q E gd hr h => ?_)
  · obtain ⟨v, ms, rfl, _⟩ := h
    rfl
  · obtain ⟨v, sc, rfl, dv, ml, m9, q⟩ := h
    refine ⟨_, PSs.nox (pss_cons (ps_set (i := 1) sc_l_pieces.nd rfl (.inl rfl) (pe_lst pa_nil)) (pss_cons (ps_for PassesOwn.never rfl (pi_range1 rfl B.range (pa_cons (pe_callB call_len_seq rfl B.len PySem.boot_len (pa_cons (pe_ix ix_tup (pv 0) pe_int (fun _ _ => rfl)) pa_nil)) pa_nil)) (pg_name (i := 2) sc_l_pieces.nd rfl (.inl rfl)) (pss_cons (ps_par (i := 3) (j := 4) rfl sc_l_pieces.nd rfl rfl (by decide) rfl rfl (pa_cons (pe_ix ix_tup (pe_ix ix_tup (pv 0) pe_int (fun _ _ => rfl)) (pv 2) (fun _ _ => rfl)) (pa_cons (pe_ix ix_tup (pe_ix ix_tup (pv 0) pe_int (fun _ _ => rfl)) (pe_op op_add (pv 2) pe_int) (fun _ _ => rfl)) pa_nil)) (by rfl)) (pss_one (ps_expr (pe_bm PySem.F.plainAttrs_list PySem.F.slot_list_append PySem.F.type_list_append mt_append (pv 1) (pa_cons (pe_ifExp (pt_cmpR op_lt_str (pv 3) (pv 4) (nomark _)) (pe_tup (pa_cons (pe_ix ix_tup (pv 0) pe_int (fun _ _ => rfl)) (pa_cons (pv 3) (pa_cons (pv 4) pa_nil)))) (pe_tup (pa_cons (pe_ix ix_tup (pv 0) pe_int (fun _ _ => rfl)) (pa_cons (pv 4) (pa_cons (pv 3) pa_nil))))) pa_nil)))))) (pss_one (ps_ret (pv 1))))), ?_⟩
    dsimp only [cxOf]
    obtain ⟨a, b, c, ts, rfl, ea, eb, ec, tc⟩ := secD_inv dv
    have tl' : ts.length = sc.ts.length := by rw [tc.len, List.length_map]
    refine ⟨Nat.zero_le _, fun r nr => gName_go ?_⟩
    try dsimp only
    obtain ⟨s0, e0⟩ := nxo (o := .lst []) nr
    generalize upd H r (.lst []) = H0 at s0 e0 ⊢
    refine ⟨_, rfl, a, _, 2, _, rfl, rfl, .of (s0 _ _ ea), atI_nat (j := 2) rfl, c, _, rfl, .inr (.of (s0 _ _ ec)), ((ts.length : Nat) : Int), rfl, by omega, by omega, ?_⟩
    rw [Int.toNat_natCast]
    refine for_it (walk_range (lo := 0) (n := ts.length)) (fun k σ H' => ∃ (y2 y3 y4 : Option V), σ = [some (.ref a), some (.ref r), y2, y3, y4] ∧ Same H H' ∧ LD H' r (((pcs sc).take k).map pcD)) ⟨none, none, none, rfl, s0, [], e0, .nil⟩ (fun _ _ _ _ _ => trivial) (fun k x σ Ha Hb hk pv y => ?_) (fun σ Ha pv => ?_)
    · obtain ⟨y2, y3, y4, rfl, sm, us, eu, tu⟩ := pv
      obtain ⟨rfl, rfl⟩ := y
      refine gName_go ?_
      try dsimp only
      have hk' : k < ts.length := hk
      refine ⟨_, rfl, a, _, 1, _, rfl, rfl, .of (sm _ _ ea), atI_nat (j := 1) rfl, _, rfl, b, _, _, _, rfl, rfl, .of (sm _ _ eb), at_get (k := k) (by omega) (by omega), _, rfl, a, _, 1, _, rfl, rfl, .of (sm _ _ ea), atI_nat (j := 1) rfl, _, rfl, _, _, rfl, rfl, b, _, _, _, rfl, rfl, .of (sm _ _ eb), at_get (k := k + 1) (by omega) (by omega), _, _, rfl, ?_⟩
      try dsimp only
      have tk := pcs_take sc k (by omega)
      generalize sc.ms.getD k "" = x at tk ⊢
      generalize sc.ms.getD (k + 1) "" = y at tk ⊢
      refine ⟨_, rfl, .inl ⟨rfl, _, .of eu⟩, _, rfl, _, rfl, _, _, rfl, rfl, _, rfl, ?_⟩
      have fin : ∀ (t : Pc) (Hx : Hp) (tt : Addr), t = (sc.nm, minS x y, maxS x y) → Same Hb Hx → Hx tt = none → ∃ l xs yy, V.ref r = .ref l ∧ [V.ref tt] = [yy] ∧ (upd Hx tt (.tup [.str t.1, .str t.2.1, .str t.2.2])) l = some (.lst xs) ∧ xs.length < sizeLine ∧ ∃ (z2 z3 z4 : Option V), ([some (.ref a), some (.ref r), some (.int (0 + (k : Nat))), some (.str x), some (.str y)] : L2.St) = [some (.ref a), some (.ref r), z2, z3, z4] ∧ Same H (upd (upd Hx tt (.tup [.str t.1, .str t.2.1, .str t.2.2])) l (.lst (xs ++ [yy]))) ∧ LD (upd (upd Hx tt (.tup [.str t.1, .str t.2.1, .str t.2.2])) l (.lst (xs ++ [yy]))) r (((pcs sc).take (k + 1)).map pcD) := fun t Hx tt et sx nt => by
        obtain ⟨st, ett⟩ := nxo (o := .tup [.str t.1, .str t.2.1, .str t.2.2]) nt
        have eur := st _ _ (sx _ _ eu)
        refine ⟨r, us, .ref tt, rfl, rfl, eur, ?_, _, _, _, rfl, same_mut ((sm.trans sx).trans st) nr, ?_⟩
        · have l1 := tu.len
          rw [List.length_map, List.length_take] at l1
          exact len20k (by omega)
        · rw [tk, List.map_append, ← et]
          exact LD.push eur (tu.tk (Same.tk (sx.trans st))) (.tup ett (.cons (.str _) (.cons (.str _) (.cons (.str _) .nil))))
      refine ite2 (fun c => ?_) (fun c => ?_)
      · refine ⟨_, rfl, a, _, 0, _, rfl, rfl, .of (sm _ _ ea), atI_nat (j := 0) rfl, _, rfl, _, rfl, (by show 3 ≤ sizeLine; decide), fun tt nt => ?_⟩
        obtain ⟨h1, h2⟩ := lt_is (of_decide_eq_true c)
        exact fin (sc.nm, x, y) Hb tt (by rw [h1, h2]) (Same.refl _) nt
      · refine ⟨_, rfl, a, _, 0, _, rfl, rfl, .of (sm _ _ ea), atI_nat (j := 0) rfl, _, rfl, _, rfl, (by show 3 ≤ sizeLine; decide), fun tt nt => ?_⟩
        obtain ⟨h1, h2⟩ := lt_or (x := x) (y := y) (fun z => c (decide_eq_true z))
        exact fin (sc.nm, y, x) Hb tt (by rw [h1, h2]) (Same.refl _) nt
    · obtain ⟨y2, y3, y4, rfl, sm, l⟩ := pv
      rw [List.take_of_length_le (by rw [pcs_len]; omega)] at l
      exact ⟨_, rfl, q _ r sm nr l⟩
def nth3 (ts : List Tri) : Nat → Int
  | 0 => (ts.map (·.1)).sum
  | 1 => (ts.map (·.2.1)).sum
  | _ => (ts.map (·.2.2)).sum
def at3 (t : Tri) : Nat → Int
  | 0 => t.1
  | 1 => t.2.1
  | _ => t.2.2
theorem nth3_at (ts : List Tri) (k : Nat) : nth3 ts k = (ts.map fun t => at3 t k).sum := by
  match k with
  | 0 => rfl
  | 1 => rfl
  | k + 2 => rfl
theorem kn_lwhole (D : Df K mg "_law_whole" s_l_whole) (B : BG mg) : Kn P w K mg base "_law_whole" 1 p_l_whole spWhole := by
  refine D.kn sc_l_whole (fun _ _ _ _ _ _ us hl => match us, hl with | [_], _ => rfl) (fun vs H Q E h => ?_) (fun f cdv A outer s H vs Q E gd hr h => ?_)
  · obtain ⟨v, ms, rfl, _⟩ := h
    rfl
  · obtain ⟨v, sc, rfl, dv, ml, q⟩ := h
    refine ⟨_, PSs.nox (pss_one (ps_ret (pe_callTy call_tuple_of rfl B.tuple bt_tuple (pa_cons (pe_lc (own := [("_law_k", 1)]) (g := gName 1) (tt := tYes) (te := tCB (rSum K) (tCons (tLc (iTup K (tOp (rIxT K) (tVar 0) (tC (.int 2)))) (gName 2) (tYes) (tOp (rIxT K) (tVar 2) (tVar 1)) [2]) (tNil))) rfl sc_l_whole.nd (pi_range1 rfl B.range (pa_cons pe_int pa_nil)) (blkOk_by (N := n_l_whole) (sc := defScope s_l_whole) (by decide +kernel)) (fun _ _ _ _ _ => (pg_name (i := 1) sc_l_whole.nd rfl (.inr rfl))) (fun _ _ _ _ _ => pts_nil) (fun _ _ _ _ _ => (pe_callB (cr_sum rfl) rfl B.sum bt_sum (pa_cons (pe_lc (own := [("_law_stretch_here", 2)]) (g := gName 2) (tt := tYes) (te := tOp (rIxT K) (tVar 2) (tVar 1)) rfl sc_l_whole.nd (pi_tup (pe_ix ix_tup (pv 0) pe_int (fun _ _ => rfl))) (blkOk_by (N := n_l_whole) (sc := { kind := .function, names := [(".0", .local), ("_law_k", .cell), ("sum", .globalImplicit), ("_law_section_here", .cell)], isGenerator := false, isCoroutine := false }) (by decide +kernel)) (fun _ _ _ _ _ => (pg_name (i := 2) sc_l_whole.nd rfl (.inl rfl))) (fun _ _ _ _ _ => pts_nil) (fun _ _ _ _ _ => (pe_ix ix_tup (pv 2) (pv 1) (fun _ _ => rfl)))) pa_nil)))) pa_nil)))), ?_⟩
    dsimp only [cxOf]
    obtain ⟨a, b, c, ts, rfl, ea, eb, ec, tc⟩ := secD_inv dv
    refine ret_go (cB_go (cons_go (lc_in ⟨3, rfl, by decide, by decide, ?_⟩)))
    refine lc_rng (n := 3) (p := fun _ => true) (gd := fun k => .int (nth3 sc.ts k)) (by decide) (fun k x H1 N1 N0 ha sm dx n1 n0 => ⟨wiped, ?_⟩) fun H' D' sm nD l => ?_
    · have hk : k < 3 := List.mem_range.mp ha
      have e := dx.int'
      subst e
      dsimp only [tYes]
      rw [if_pos rfl]
      have hc0 := gOth (σ := [some (.ref a), none, none]) (i := 1) (j := 0) (x := some (.int (0 + (k : Nat)))) rfl (by decide)
      refine cB_go (cons_go (lc_in ⟨_, hc0, a, _, 2, _, rfl, rfl, .of (sm _ _ ea), atI_nat (j := 2) rfl, c, rfl, ⟨_, .of (sm _ _ ec)⟩, ?_⟩))
      refine lc_tup (K := K) (xs := sc.ts) (f := triD) (p := fun _ => true) (gd := fun t => .int (at3 t k)) (sm _ _ ec) (tc.tk (Same.tk sm)) (by omega) (fun t x H2 M1 M0 ht sm2 dx2 m1 m0 => ⟨wiped, ?_⟩) fun H2 D2 sm2 nD2 l2 => ?_
      · obtain ⟨T, rfl, eT⟩ := triD_inv dx2
        dsimp only [tYes]
        rw [if_pos rfl]
        refine ⟨_, gOwn (Nat.lt_of_sub_eq_succ rfl), _, gOth (gOwn (Nat.lt_of_sub_eq_succ rfl)) (by decide), T, _, _, _, rfl, rfl, .of eT, atI_nat' (j := k) ?_ ?_, m1 _ _ (Same.refl _) rfl (.int _)⟩
        · omega
        · match k, hk with
          | 0, _ => rfl
          | 1, _ => rfl
          | 2, _ => rfl
      · rw [List.filter_eq_self.mpr (fun _ _ => rfl)] at l2
        obtain ⟨vs, e, t⟩ := l2
        have e2 : sc.ts.map (fun t => PyData.int (at3 t k)) = (sc.ts.map fun t => at3 t k).map .int := by rw [List.map_map]; rfl
        rw [e2] at t
        rw [t.ints] at e
        refine ⟨D2, _, rfl, .of e, n1 _ _ sm2 rfl ?_⟩
        rw [nth3_at]
        exact .int _
    · rw [List.filter_eq_self.mpr (fun _ _ => rfl)] at l
      obtain ⟨vs, e, t⟩ := l
      refine ⟨D', vs, rfl, .inl ⟨.of e, fun p np => ?_⟩⟩
      obtain ⟨s4, e4⟩ := nxo (o := .tup vs) np
      exact q _ _ (sm.trans s4) (.tup e4 (t.tk (Same.tk s4)))
end
end Pb

namespace Pb
open PySem PySem.Spec PyProof.Rows L2 TL
/-! ### numbers, badges -/
abbrev s_numbers_of : Stmt := top 14
abbrev n_numbers_of : List Str := ["book", "mark", "found", "name", "marks", "stretches", "i", "one"]
abbrev p_numbers_of : List Str := ["book", "mark"]
theorem sc_numbers_of : FnScope n_numbers_of p_numbers_of (defScope s_numbers_of) := ⟨rfl, rfl, rfl, by decide +kernel, rfl, by decide +kernel, by decide +kernel⟩
abbrev s_l_numbers : Stmt := top 31
abbrev n_l_numbers : List Str := ["_law_book_here", "_law_mark", "_law_found", "_law_name", "_law_marks_here", "_law_stretches", "_law_k"]
abbrev p_l_numbers : List Str := ["_law_book_here", "_law_mark"]
theorem sc_l_numbers : FnScope n_l_numbers p_l_numbers (defScope s_l_numbers) := ⟨rfl, rfl, rfl, by decide +kernel, rfl, by decide +kernel, by decide +kernel⟩
abbrev s_badge_of : Stmt := top 16
abbrev n_badge_of : List Str := ["book", "name", "called", "sort", "number"]
abbrev p_badge_of : List Str := ["book", "name"]
theorem sc_badge_of : FnScope n_badge_of p_badge_of (defScope s_badge_of) := ⟨rfl, rfl, rfl, by decide +kernel, rfl, by decide +kernel, by decide +kernel⟩
abbrev s_l_badge : Stmt := top 33
abbrev n_l_badge : List Str := ["_law_book_here", "_law_name", "_law_found", "_law_badge_here", "_law_sort", "_law_number"]
abbrev p_l_badge : List Str := ["_law_book_here", "_law_name"]
theorem sc_l_badge : FnScope n_l_badge p_l_badge (defScope s_l_badge) := ⟨rfl, rfl, rfl, by decide +kernel, rfl, by decide +kernel, by decide +kernel⟩
theorem bookD_inv {H : Hp} {v : V} {b : Bk} (h : Dt H v (bookD b)) : ∃ a s h e g us ue ug, v = .ref a ∧ H a = some (.tup [.ref s, .ref h, .ref e, .ref g]) ∧ H s = some (.tup us) ∧ DtAll H us (b.secs.map secD) ∧ H h = some (.tup (b.halts.map V.str)) ∧ H e = some (.tup ue) ∧ DtAll H ue (b.bes.map bsD) ∧ H g = some (.tup ug) ∧ DtAll H ug (b.bdg.map bdgD) := by
  obtain ⟨a, us, rfl, ea, t⟩ := h.tup'
  obtain ⟨_, _, rfl, d1, t⟩ := t.cons'
  obtain ⟨_, _, rfl, d2, t⟩ := t.cons'
  obtain ⟨_, _, rfl, d3, t⟩ := t.cons'
  obtain ⟨_, _, rfl, d4, t⟩ := t.cons'
  have e := t.nil'
  subst e
  obtain ⟨s, us, rfl, es, ts⟩ := d1.tup'
  obtain ⟨hh, uh, rfl, eh, th⟩ := d2.tup'
  have e2 := th.strs
  subst e2
  obtain ⟨e, ue, rfl, ee, te⟩ := d3.tup'
  obtain ⟨g, ug, rfl, eg, tg⟩ := d4.tup'
  exact ⟨a, s, hh, e, g, us, ue, ug, rfl, ea, es, ts, eh, ee, te, eg, tg⟩
def nkD (t : Str × Nat) : PyData := .tuple [.str t.1, .int ((t.2 : Nat) : Int)]
def numsOf (mk : Str) (s : Sec) : List (Str × Nat) := ((List.range s.ms.length).filter fun k => decide (s.ms.getD k "" = mk)).map fun k => (s.nm, k)
def nums (mk : Str) (ss : List Sec) : List (Str × Nat) := (ss.map (numsOf mk)).flatten
theorem nums_len (mk : Str) {c : Nat} : ∀ (ss : List Sec), (∀ s ∈ ss, s.ms.length ≤ c) → (nums mk ss).length ≤ c * ss.length
  | [], _ => Nat.zero_le _
  | s :: r, h => by
    have ih := nums_len mk r fun x hx => h x (List.mem_cons_of_mem _ hx)
    have h1 := h s List.mem_cons_self
    have h2 : (numsOf mk s).length ≤ s.ms.length := by
      unfold numsOf
      rw [List.length_map]
      have := List.length_filter_le (fun k => decide (s.ms.getD k "" = mk)) (List.range s.ms.length)
      rw [List.length_range] at this
      exact this
    show (numsOf mk s ++ nums mk r).length ≤ c * (r.length + 1)
    rw [List.length_append, Nat.mul_succ]
    omega
theorem nums_snoc (mk : Str) (ss : List Sec) (s : Sec) : nums mk (ss ++ [s]) = nums mk ss ++ numsOf mk s := by
  unfold nums
  rw [List.map_append, List.flatten_append]
  simp
def spNumbers : Sp := fun vs H Q _ => ∃ (v : V) (b : Bk) (mk : Str), vs = [v, .str mk] ∧ Dt H v (bookD b) ∧ b.secs.length ≤ 8 ∧ (∀ s ∈ b.secs, s.ms.length ≤ 8) ∧ ∀ (H' : Hp) (r : Addr), Same H H' → H r = none → LD H' r ((nums mk b.secs).map nkD) → Q (.ref r) H'
def bdgO (b : Bk) (nm : Str) : PyData := match b.bdg.find? fun g => decide (g.1 = nm) with
  | some g => .tuple [.str g.2.1, .int g.2.2]
  | none => .none
def spBadge : Sp := fun vs H Q _ => ∃ (v : V) (b : Bk) (nm : Str), vs = [v, .str nm] ∧ Dt H v (bookD b) ∧ b.bdg.length ≤ 6 ∧ (∀ g ∈ b.bdg, BdgOk g) ∧ ∀ (H' : Hp) (v' : V), Same H H' → Dt H' v' (bdgO b nm) → Q v' H'
theorem sorts_sh {x : Str} (h : x ∈ sorts) : Sh 8 x := by
  have : ∀ y ∈ sorts, (y.cps.toList.all fun c => decide (c < 128)) = true ∧ y.cps.toList.length ≤ 8 := by decide +kernel
  obtain ⟨h1, h2⟩ := this x h
  exact ⟨fun c hc => of_decide_eq_true (List.all_eq_true.mp h1 c hc), h2⟩
theorem eq_str (x y : Str) : decide (V.str x = V.str y) = decide (x = y) := by
  by_cases c : x = y
  · subst c
    simp
  · have : ¬ V.str x = V.str y := fun z => c (V.str.inj z)
    simp [c, this]
section
variable {P : Program} {w : World} {K : PySem.W.Frag} {mg : Str → Option Value} {base : Heap}
theorem kn_numbers (D : Df K mg "numbers_of" s_numbers_of) (B : BG mg) : Kn P w K mg base "numbers_of" 1 p_numbers_of spNumbers := by
  refine D.kn sc_numbers_of (fun _ _ _ _ _ _ us hl => match us, hl with | [_, _], _ => rfl) (fun vs H Q E h => ?_) (fun f cdv A outer s H vs Q E gd hr h => ?_)
  · obtain ⟨v, b, mk, rfl, _⟩ := h
    rfl
  · obtain ⟨v, b, mk, rfl, dv, bl, ml, q⟩ := h
    refine ⟨_, PSs.nox (pss_cons (ps_set (i := 2) sc_numbers_of.nd rfl (.inl rfl) (pe_lst pa_nil)) (pss_cons (ps_for PassesOwn.never rfl (pi_tup (pe_ix ix_tup (pv 0) pe_int (fun _ _ => rfl))) (pg_tup rfl (pgs_cons (pg_name (i := 3) sc_numbers_of.nd rfl (.inr rfl)) (pgs_cons (pg_name (i := 4) sc_numbers_of.nd rfl (.inl rfl)) (pgs_cons (pg_name (i := 5) sc_numbers_of.nd rfl (.inl rfl)) pgs_nil)))) (pss_one (ps_expr (pe_bm PySem.F.plainAttrs_list PySem.F.slot_list_extend PySem.F.type_list_extend mt_extend (pv 2) (pa_cons (pe_lc (own := [("i", 6), ("one", 7)]) (g := gTup K 2 (gCons (gName 6) (gCons (gName 7) (gNil)))) (tt := tTest (tOp rEq (tVar 7) (tVar 1))) (te := tTup (tCons (tVar 3) (tCons (tVar 6) (tNil)))) rfl sc_numbers_of.nd (pi_enT rfl B.enumerate (pa_cons (pv 4) pa_nil)) (blkOk_by (N := n_numbers_of) (sc := defScope s_numbers_of) (by decide +kernel)) (fun _ _ _ _ _ => (pg_tup rfl (pgs_cons (pg_name (i := 6) sc_numbers_of.nd rfl (.inl rfl)) (pgs_cons (pg_name (i := 7) sc_numbers_of.nd rfl (.inl rfl)) pgs_nil)))) (fun _ _ _ _ _ => (pts_one (pt_cmpR op_eq (pv 7) (pv 1) (nomark _)))) (fun _ _ _ _ _ => (pe_tup (pa_cons (pv 3) (pa_cons (pv 6) pa_nil))))) pa_nil))))) (pss_one (ps_ret (pv 2))))), ?_⟩
    dsimp only [cxOf]
    obtain ⟨a, s0, h0, e0, g0, us, ue, ug, rfl, ea, es, ts, _, _, _, _, _⟩ := bookD_inv dv
    refine ⟨Nat.zero_le _, fun r nr => gName_go ?_⟩
    try dsimp only
    obtain ⟨sr, er⟩ := nxo (o := .lst []) nr
    generalize upd H r (.lst []) = H0 at sr er ⊢
    have ul : us.length = b.secs.length := by rw [ts.len, List.length_map]
    refine ⟨_, rfl, a, _, 0, _, rfl, rfl, .of (sr _ _ ea), atI_nat (j := 0) rfl, s0, rfl, ⟨_, .of (sr _ _ es)⟩, ?_⟩
    refine for_it (walk_tup (K := K) (a := s0) (xs := us)) (fun k σ H' => ∃ (y3 y4 y5 : Option V), σ = [some (.ref a), some (.str mk), some (.ref r), y3, y4, y5, none, none] ∧ Same H H' ∧ LD H' r ((nums mk (b.secs.take k)).map nkD)) ⟨none, none, none, rfl, sr, [], er, .nil⟩ (fun i σ H' _ pv => ?_) (fun k x σ Ha Hb hk pv y => ?_) (fun σ Ha pv => ?_)
    · obtain ⟨_, _, _, _, sm, _⟩ := pv
      exact .of (sm _ _ es)
    · obtain ⟨y3, y4, y5, rfl, sm, vr, ev, tv⟩ := pv
      obtain ⟨rfl, gx⟩ := y
      obtain ⟨dd, gd', dx⟩ := (ts.tk (Same.tk sm)).getV k x gx
      rw [List.getElem?_map] at gd'
      obtain ⟨sk, gs, rfl⟩ := Option.map_eq_some_iff.mp gd'
      have skm : sk ∈ b.secs := List.mem_of_getElem? gs
      obtain ⟨p, pm, pt, ut, rfl, ep, epm, ept, _⟩ := secD_inv dx
      refine ⟨p, _, rfl, .of ep, rfl, _, _, rfl, _, _, rfl, _, _, rfl, rfl, ?_⟩
      try dsimp only
      refine ⟨_, rfl, .inl ⟨rfl, _, .of ev⟩, ?_⟩
      refine cons_go (lc_in ⟨_, rfl, pm, _, rfl, .of epm, ?_⟩)
      have ml' := ml sk skm
      refine lc_gen (xs := List.range sk.ms.length) (f := fun k => .tuple [.int (k : Nat), .str (sk.ms.getD k "")]) (p := fun k => decide (sk.ms.getD k "" = mk)) (gd := fun k => nkD (sk.nm, k)) (walk_enT (K := K) (a := pm) (xs := sk.ms.map V.str)) (by rw [List.length_range, List.length_map]) (by rw [List.length_map]; omega) (fun H1 s => .of (s _ _ epm)) (fun i t H1 x H2 ga sm2 y => ?_) (fun t x H1 N1 N0 ht sm2 dx n1 n0 => ?_) fun H1 D1 s1 nD1 l1 => ?_
      · obtain ⟨T, x1, y1, rfl, nT, rfl, g1, g2⟩ := y
        dsimp only at g1 g2
        obtain ⟨sT, eT'⟩ := nxo (o := .tup [x1, y1]) nT
        refine ⟨sT, ?_⟩
        have lt := (List.getElem?_eq_some_iff.mp ga).1
        rw [List.getElem?_eq_getElem lt] at ga
        have e : i = t := by simpa using ga
        subst e
        rw [List.length_range] at lt
        cases g1
        rw [List.getElem?_map, List.getElem?_eq_getElem lt] at g2
        cases g2
        have e3 : sk.ms.getD i "" = sk.ms[i] := by
          rw [List.getD_eq_getElem?_getD, List.getElem?_eq_getElem lt]
          rfl
        rw [e3]
        exact .tup eT' (.cons (.int _) (.cons (.str _) .nil))
      · obtain ⟨T, us', rfl, eT', tT⟩ := dx.tup'
        obtain ⟨_, _, rfl, d1, tT⟩ := tT.cons'
        obtain ⟨_, _, rfl, d2, tT⟩ := tT.cons'
        have e := tT.nil'
        subst e
        have e1 := d1.int'
        have e2 := d2.str'
        subst e1 e2
        refine ⟨T, _, rfl, .of eT', rfl, _, _, rfl, _, _, rfl, rfl, wiped2 (by decide), ?_⟩
        refine ⟨_, gOwn2' (Nat.lt_of_sub_eq_succ rfl), _, gOth2 (σ := [some (.ref a), some (.str mk), some (.ref r), some (.str sk.nm), some (.ref pm), some (.ref pt), none, none]) rfl (by decide) (by decide), rfl, _, rfl, ?_⟩
        rw [eq_str]
        refine ite2 (fun c => ?_) (fun c => ?_)
        · refine ⟨_, gOth2 (σ := [some (.ref a), some (.str mk), some (.ref r), some (.str sk.nm), some (.ref pm), some (.ref pt), none, none]) rfl (by decide) (by decide), _, gOwn2 (Nat.lt_of_sub_eq_succ rfl) (by decide), (by show 2 ≤ sizeLine; decide), fun u nu => ?_⟩
          obtain ⟨su, eu⟩ := nxo (o := .tup [.str sk.nm, .int (t : Nat)]) nu
          exact n1 _ _ su c (.tup eu (.cons (.str _) (.cons (.int _) .nil)))
        · exact n0 _ (Same.refl _) (Bool.eq_false_iff.mpr c)
      · obtain ⟨v1, e1, t1⟩ := l1
        have e1' : ((List.range sk.ms.length).filter fun k => decide (sk.ms.getD k "" = mk)).map (fun k => nkD (sk.nm, k)) = (numsOf mk sk).map nkD := by
          unfold numsOf
          rw [List.map_map]
          rfl
        rw [e1'] at t1
        have tk : b.secs.take (k + 1) = b.secs.take k ++ [sk] := by
          rw [List.take_add_one, gs]
          rfl
        have nl := nums_len mk (c := 8) (b.secs.take (k + 1)) fun s hs => ml s (List.mem_of_mem_take hs)
        rw [tk, nums_snoc, List.length_append, List.length_append, List.length_take] at nl
        have lv := tv.len
        have lv1 := t1.len
        rw [List.length_map] at lv lv1
        have ev1 := s1 _ _ ev
        refine ⟨r, D1, _, _, rfl, rfl, ev1, e1, ?_, _, _, _, rfl, same_mut (sm.trans s1) nr, ?_⟩
        · exact Nat.le_of_lt (len20k (by simp at nl; omega))
        · rw [tk, nums_snoc, List.map_append]
          exact ⟨_, upd_same, ((tv.tk (Same.tk s1)).app t1).tk (tk_updL ev1)⟩
    · obtain ⟨y3, y4, y5, rfl, sm, l⟩ := pv
      rw [ul, List.take_length] at l
      exact ⟨_, rfl, q _ r sm nr l⟩
theorem numsUp (mk : Str) (s : Sec) (k : Nat) : ((List.range (k + 1)).filter fun k => decide (s.ms.getD k "" = mk)).map (fun k => (s.nm, k)) = ((List.range k).filter fun k => decide (s.ms.getD k "" = mk)).map (fun k => (s.nm, k)) ++ (if decide (s.ms.getD k "" = mk) = true then [(s.nm, k)] else []) := by
  rw [List.range_succ, List.filter_append, List.map_append]
  congr 1
  rw [List.filter_cons, List.filter_nil]
  by_cases c : decide (s.ms.getD k "" = mk) = true
  · rw [if_pos c, if_pos c]
    rfl
  · rw [if_neg c, if_neg c]
    rfl
theorem kn_lnumbers (D : Df K mg "_law_numbers" s_l_numbers) (B : BG mg) : Kn P w K mg base "_law_numbers" 1 p_l_numbers spNumbers := by
  refine D.kn sc_l_numbers (fun _ _ _ _ _ _ us hl => match us, hl with | [_, _], _ => rfl) (fun vs H Q E h => ?_) (fun f cdv A outer s H vs Q E gd hr h => ?_)
  · obtain ⟨v, b, mk, rfl, _⟩ := h
    rfl
  · obtain ⟨v, b, mk, rfl, dv, bl, ml, q⟩ := h
    refine ⟨_, PSs.nox (pss_cons (ps_set (i := 2) sc_l_numbers.nd rfl (.inl rfl) (pe_lst pa_nil)) (pss_cons (ps_for PassesOwn.never rfl (pi_tup (pe_ix ix_tup (pv 0) pe_int (fun _ _ => rfl))) (pg_tup rfl (pgs_cons (pg_name (i := 3) sc_l_numbers.nd rfl (.inl rfl)) (pgs_cons (pg_name (i := 4) sc_l_numbers.nd rfl (.inl rfl)) (pgs_cons (pg_name (i := 5) sc_l_numbers.nd rfl (.inl rfl)) pgs_nil)))) (pss_one (ps_for PassesOwn.never rfl (pi_range1 rfl B.range (pa_cons (pe_callB call_len_seq rfl B.len PySem.boot_len (pa_cons (pv 4) pa_nil)) pa_nil)) (pg_name (i := 6) sc_l_numbers.nd rfl (.inl rfl)) (pss_one (ps_if (pt_cmpR op_eq (pe_ix ix_tup (pv 4) (pv 6) (fun _ _ => rfl)) (pv 1) (nomark _)) (pss_one (ps_expr (pe_bm PySem.F.plainAttrs_list PySem.F.slot_list_append PySem.F.type_list_append mt_append (pv 2) (pa_cons (pe_tup (pa_cons (pv 3) (pa_cons (pv 6) pa_nil))) pa_nil)))) pss_nil))))) (pss_one (ps_ret (pv 2))))), ?_⟩
    dsimp only [cxOf]
    obtain ⟨a, s0, h0, e0, g0, us, ue, ug, rfl, ea, es, ts, _, _, _, _, _⟩ := bookD_inv dv
    refine ⟨Nat.zero_le _, fun r nr => gName_go ?_⟩
    try dsimp only
    obtain ⟨sr, er⟩ := nxo (o := .lst []) nr
    generalize upd H r (.lst []) = H0 at sr er ⊢
    have ul : us.length = b.secs.length := by rw [ts.len, List.length_map]
    refine ⟨_, rfl, a, _, 0, _, rfl, rfl, .of (sr _ _ ea), atI_nat (j := 0) rfl, s0, rfl, ⟨_, .of (sr _ _ es)⟩, ?_⟩
    refine for_it (walk_tup (K := K) (a := s0) (xs := us)) (fun k σ H' => ∃ (y3 y4 y5 y6 : Option V), σ = [some (.ref a), some (.str mk), some (.ref r), y3, y4, y5, y6] ∧ Same H H' ∧ LD H' r ((nums mk (b.secs.take k)).map nkD)) ⟨none, none, none, none, rfl, sr, [], er, .nil⟩ (fun i σ H' _ pv => ?_) (fun k x σ Ha Hb hk pv y => ?_) (fun σ Ha pv => ?_)
    · obtain ⟨_, _, _, _, _, sm, _⟩ := pv
      exact .of (sm _ _ es)
    · obtain ⟨y3, y4, y5, y6, rfl, sm, lr⟩ := pv
      obtain ⟨rfl, gx⟩ := y
      obtain ⟨dd, gd', dx⟩ := ts.getV k x gx
      rw [List.getElem?_map] at gd'
      obtain ⟨sk, gs, rfl⟩ := Option.map_eq_some_iff.mp gd'
      have skm : sk ∈ b.secs := List.mem_of_getElem? gs
      obtain ⟨p, pm, pt, ut, rfl, ep, epm, ept, _⟩ := secD_inv dx
      refine ⟨p, _, rfl, .of (sm _ _ ep), rfl, _, _, rfl, _, _, rfl, _, _, rfl, rfl, ?_⟩
      try dsimp only
      have ml' := ml sk skm
      have tk : b.secs.take (k + 1) = b.secs.take k ++ [sk] := by
        rw [List.take_add_one, gs]
        rfl
      have nl := nums_len mk (c := 8) (b.secs.take k) fun s hs => ml s (List.mem_of_mem_take hs)
      rw [List.length_take] at nl
      refine ⟨_, rfl, pm, _, rfl, .inr (.of (sm _ _ epm)), ((sk.ms.length : Nat) : Int), (by rw [List.length_map]), by omega, by omega, ?_⟩
      rw [Int.toNat_natCast]
      refine for_it (walk_range (lo := 0) (n := sk.ms.length)) (fun j σ H' => ∃ y6 : Option V, σ = [some (.ref a), some (.str mk), some (.ref r), some (.str sk.nm), some (.ref pm), some (.ref pt), y6] ∧ Same H H' ∧ LD H' r ((nums mk (b.secs.take k) ++ ((List.range j).filter fun k => decide (sk.ms.getD k "" = mk)).map fun k => (sk.nm, k)).map nkD)) ⟨y6, rfl, sm, ?_⟩ (fun _ _ _ _ _ => trivial) (fun j x σ Hc Hd hj pv y => ?_) (fun σ Hc pv => ?_)
      · show LD Hb r ((nums mk (b.secs.take k) ++ []).map nkD)
        rw [List.append_nil]
        exact lr
      · obtain ⟨y6, rfl, sm2, ur, eu, tu⟩ := pv
        obtain ⟨rfl, rfl⟩ := y
        refine gName_go ?_
        try dsimp only
        have hj' : j < sk.ms.length := hj
        refine ⟨_, rfl, _, rfl, pm, _, _, _, rfl, rfl, .of (sm2 _ _ epm), at_get (k := j) (by omega) hj', _, rfl, rfl, _, rfl, ?_⟩
        rw [eq_str]
        have up := numsUp mk sk j
        refine ite2 (fun c => ?_) (fun c => ?_)
        · rw [if_pos c] at up
          refine ⟨_, rfl, .inl ⟨rfl, _, .of eu⟩, _, rfl, _, rfl, (by show 2 ≤ sizeLine; decide), fun t nt => ?_⟩
          obtain ⟨st, et⟩ := nxo (o := .tup [.str sk.nm, .int (0 + (j : Nat))]) nt
          have eur := st _ _ eu
          refine ⟨r, _, _, rfl, rfl, eur, ?_, _, rfl, same_mut (sm2.trans st) nr, ?_⟩
          · have l1 := tu.len
            have l2 := List.length_filter_le (fun k => decide (sk.ms.getD k "" = mk)) (List.range j)
            rw [List.length_range] at l2
            rw [List.length_map, List.length_append, List.length_map] at l1
            exact len20k (by omega)
          · rw [up, ← List.append_assoc, List.map_append (l₁ := nums mk (b.secs.take k) ++ _)]
            refine LD.push eur (tu.tk (Same.tk st)) ?_
            refine .tup et (.cons (.str _) (.cons ?_ .nil))
            show Dt _ (.int (0 + (j : Int))) (.int ((j : Nat) : Int))
            have e0 : (0 + (j : Int)) = ((j : Nat) : Int) := by omega
            rw [e0]
            exact .int _
        · rw [if_neg c, List.append_nil] at up
          refine ⟨_, rfl, sm2, ?_⟩
          rw [up]
          exact ⟨ur, eu, tu⟩
      · obtain ⟨y6, rfl, sm2, l⟩ := pv
        refine ⟨_, _, _, _, rfl, sm2, ?_⟩
        rw [tk, nums_snoc]
        exact l
    · obtain ⟨y3, y4, y5, y6, rfl, sm, l⟩ := pv
      rw [ul, List.take_length] at l
      exact ⟨_, rfl, q _ r sm nr l⟩
theorem bdgD_inv {H : Hp} {v : V} {g : Bdg} (h : Dt H v (bdgD g)) : ∃ a, v = .ref a ∧ H a = some (.tup [.str g.1, .str g.2.1, .int g.2.2]) := by
  obtain ⟨a, us, rfl, ea, t⟩ := h.tup'
  obtain ⟨_, _, rfl, d1, t⟩ := t.cons'
  obtain ⟨_, _, rfl, d2, t⟩ := t.cons'
  obtain ⟨_, _, rfl, d3, t⟩ := t.cons'
  have e := t.nil'
  subst e
  have e1 := d1.str'
  have e2 := d2.str'
  have e3 := d3.int'
  subst e1 e2 e3
  exact ⟨a, rfl, ea⟩
theorem find_at {α : Type} {p : α → Bool} {xs : List α} {k : Nat} {x : α} (h : ∀ y ∈ xs.take k, p y = false) (e : xs[k]? = some x) (px : p x = true) : xs.find? p = some x := by
  obtain ⟨lt, ex⟩ := List.getElem?_eq_some_iff.mp e
  have sp : xs = xs.take k ++ x :: xs.drop (k + 1) := by
    rw [← ex, List.getElem_cons_drop, List.take_append_drop]
  rw [sp, List.find?_append]
  have n : (xs.take k).find? p = none := List.find?_eq_none.mpr fun y hy => by rw [h y hy]; exact Bool.false_ne_true
  rw [n, List.find?_cons, px]
  rfl
theorem kn_badge (D : Df K mg "badge_of" s_badge_of) (B : BG mg) : Kn P w K mg base "badge_of" 1 p_badge_of spBadge := by
  refine D.kn sc_badge_of (fun _ _ _ _ _ _ us hl => match us, hl with | [_, _], _ => rfl) (fun vs H Q E h => ?_) (fun f cdv A outer s H vs Q E gd hr h => ?_)
  · obtain ⟨v, b, mk, rfl, _⟩ := h
    rfl
  · obtain ⟨v, b, nm, rfl, dv, bl, bok, q⟩ := h
    refine ⟨_, PSs.nox (pss_cons (ps_for PassesOwn.never rfl (pi_tup (pe_ix ix_tup (pv 0) pe_int (fun _ _ => rfl))) (pg_tup rfl (pgs_cons (pg_name (i := 2) sc_badge_of.nd rfl (.inl rfl)) (pgs_cons (pg_name (i := 3) sc_badge_of.nd rfl (.inl rfl)) (pgs_cons (pg_name (i := 4) sc_badge_of.nd rfl (.inl rfl)) pgs_nil)))) (pss_one (ps_if (pt_cmpR op_eq (pv 2) (pv 1) (nomark _)) (pss_one (ps_ret (pe_tup (pa_cons (pv 3) (pa_cons (pv 4) pa_nil))))) pss_nil))) (pss_one (ps_ret pe_non))), ?_⟩
    dsimp only [cxOf]
    obtain ⟨a, s0, h0, e0, g0, us, ue, ug, rfl, ea, _, _, _, _, _, eg, tg⟩ := bookD_inv dv
    have ul : ug.length = b.bdg.length := by rw [tg.len, List.length_map]
    refine ⟨_, rfl, a, _, 3, _, rfl, rfl, .of ea, atI_nat (j := 3) rfl, g0, rfl, ⟨_, .of eg⟩, ?_⟩
    refine for_it (walk_tup (K := K) (a := g0) (xs := ug)) (fun k σ H' => ∃ (y2 y3 y4 : Option V), σ = [some (.ref a), some (.str nm), y2, y3, y4] ∧ Same H H' ∧ ∀ g ∈ b.bdg.take k, decide (g.1 = nm) = false) ⟨none, none, none, rfl, Same.refl _, fun _ h => (by simp at h)⟩ (fun i σ H' _ pv => ?_) (fun k x σ Ha Hb hk pv y => ?_) (fun σ Ha pv => ?_)
    · obtain ⟨_, _, _, _, sm, _⟩ := pv
      exact .of (sm _ _ eg)
    · obtain ⟨y2, y3, y4, rfl, sm, no⟩ := pv
      obtain ⟨rfl, gx⟩ := y
      obtain ⟨dd, gd', dx⟩ := (tg.tk (Same.tk sm)).getV k x gx
      rw [List.getElem?_map] at gd'
      obtain ⟨g, gg, rfl⟩ := Option.map_eq_some_iff.mp gd'
      obtain ⟨p, rfl, ep⟩ := bdgD_inv dx
      refine ⟨p, _, rfl, .of ep, rfl, _, _, rfl, _, _, rfl, _, _, rfl, rfl, ?_⟩
      try dsimp only
      refine ⟨_, rfl, _, rfl, rfl, _, rfl, ?_⟩
      rw [eq_str]
      refine ite2 (fun c => ?_) (fun c => ?_)
      · refine ⟨_, rfl, _, rfl, (by show 2 ≤ sizeLine; decide), fun t nt => ?_⟩
        obtain ⟨st, et⟩ := nxo (o := .tup [.str g.2.1, .int g.2.2]) nt
        refine q _ _ (sm.trans st) ?_
        unfold bdgO
        rw [find_at (p := fun g => decide (g.1 = nm)) no gg c]
        exact .tup et (.cons (.str _) (.cons (.int _) .nil))
      · refine ⟨_, _, _, rfl, sm, fun z hz => ?_⟩
        rw [List.take_add_one, gg] at hz
        rcases List.mem_append.mp hz with h | h
        · exact no z h
        · rw [List.mem_singleton.mp h]
          exact Bool.eq_false_iff.mpr c
    · obtain ⟨y2, y3, y4, rfl, sm, no⟩ := pv
      rw [ul, List.take_length] at no
      refine q _ _ sm ?_
      unfold bdgO
      rw [List.find?_eq_none.mpr fun y hy => by rw [no y hy]; exact Bool.false_ne_true]
      exact .non
theorem kn_lbadge (D : Df K mg "_law_badge" s_l_badge) (B : BG mg) : Kn P w K mg base "_law_badge" 1 p_l_badge spBadge := by
  refine D.kn sc_l_badge (fun _ _ _ _ _ _ us hl => match us, hl with | [_, _], _ => rfl) (fun vs H Q E h => ?_) (fun f cdv A outer s H vs Q E gd hr h => ?_)
  · obtain ⟨v, b, mk, rfl, _⟩ := h
    rfl
  · obtain ⟨v, b, nm, rfl, dv, bl, bok, q⟩ := h
    refine ⟨_, PSs.nox (pss_cons (ps_setLc (i := 2) (own := [("_law_badge_here", 3), ("_law_sort", 4), ("_law_number", 5)]) (g := gTup K 3 (gCons (gName 3) (gCons (gName 4) (gCons (gName 5) (gNil))))) (tt := tTest (tOp rEq (tVar 3) (tVar 1))) (te := tTup (tCons (tVar 4) (tCons (tVar 5) (tNil)))) rfl sc_l_badge.nd rfl rfl (sw_true rfl rfl rfl (by decide +kernel)) (pi_tup (pe_ix ix_tup (pv 0) pe_int (fun _ _ => rfl))) (blkOk_by (N := n_l_badge) (sc := defScope s_l_badge) (by decide +kernel)) (fun _ _ _ _ _ => (pg_tup rfl (pgs_cons (pg_name (i := 3) sc_l_badge.nd rfl (.inl rfl)) (pgs_cons (pg_name (i := 4) sc_l_badge.nd rfl (.inl rfl)) (pgs_cons (pg_name (i := 5) sc_l_badge.nd rfl (.inl rfl)) pgs_nil))))) (fun _ _ _ _ _ => (pts_one (pt_cmpR op_eq (pv 3) (pv 1) (nomark _)))) (fun _ _ _ _ _ => (pe_tup (pa_cons (pv 4) (pa_cons (pv 5) pa_nil))))) (pss_one (ps_ret (pe_ifExp (pt_cmpR (op_neD hr.units) (pv 2) (pe_lst pa_nil) (nomark _)) (pe_ix ix_list (pv 2) pe_int (fun _ _ => rfl)) pe_non)))), ?_⟩
    dsimp only [cxOf]
    obtain ⟨a, s0, h0, e0, g0, us, ue, ug, rfl, ea, _, _, _, _, _, eg, tg⟩ := bookD_inv dv
    refine asg_go (lc_in ⟨_, rfl, a, _, 3, _, rfl, rfl, .of ea, atI_nat (j := 3) rfl, g0, rfl, ⟨_, .of eg⟩, ?_⟩)
    refine lc_tup (K := K) (xs := b.bdg) (f := bdgD) (p := fun g => decide (g.1 = nm)) (gd := fun g => .tuple [.str g.2.1, .int g.2.2]) eg tg (by omega) (fun g x H1 N1 N0 hg sm dx n1 n0 => ?_) fun H1 D1 s1 nD1 l1 => ?_
    · obtain ⟨p, rfl, ep⟩ := bdgD_inv dx
      refine ⟨p, _, rfl, .of ep, rfl, _, _, rfl, _, _, rfl, _, _, rfl, rfl, ?_, ?_⟩
      · rfl
      · refine ⟨_, rfl, _, rfl, rfl, _, rfl, ?_⟩
        rw [eq_str]
        refine ite2 (fun c => ?_) (fun c => ?_)
        · refine ⟨_, rfl, _, rfl, (by show 2 ≤ sizeLine; decide), fun u nu => ?_⟩
          obtain ⟨su, eu⟩ := nxo (o := .tup [.str g.2.1, .int g.2.2]) nu
          exact n1 _ _ su c (.tup eu (.cons (.str _) (.cons (.int _) .nil)))
        · exact n0 _ (Same.refl _) (Bool.eq_false_iff.mpr c)
    · refine gName_go ?_
      try dsimp only
      refine ret_go (show tIf _ _ _ _ _ _ from ?_)
      obtain ⟨vl, el, tl'⟩ := l1
      refine ⟨_, rfl, Nat.zero_le _, fun e ne => ?_⟩
      obtain ⟨se, ee⟩ := nxo (o := .lst []) ne
      have ly : Ly 2 (.list ((b.bdg.filter fun g => decide (g.1 = nm)).map fun g => .tuple [.str g.2.1, .int g.2.2])) := .lst (.map _ fun g hg => .tup (.cons (.str (sorts_sh (bok g (List.mem_filter.mp hg).1).sort)) (.cons (.int _) .nil)))
      refine ⟨_, .list [], .lst (.of (se _ _ el)) (tl'.tk (Same.tk se)).dp, .lst (.of ee) .nil, ly.shp (by decide), rfl, _, rfl, ?_⟩
      rw [eqv_nilL]
      have hd : bdgO b nm = match (b.bdg.filter fun g => decide (g.1 = nm)).head? with | some g => .tuple [.str g.2.1, .int g.2.2] | none => .none := by
        unfold bdgO
        rw [List.head?_filter]
      generalize (b.bdg.filter fun g => decide (g.1 = nm)) = fl at tl' hd ly ⊢
      have q2 := fun v => q _ v (s1.trans se)
      rw [hd] at q2
      match fl, tl', q2 with
      | [], tl', q2 => exact q2 _ .non
      | g :: r, tl', q2 =>
        obtain ⟨v1, r1, rfl, d1, t1⟩ := tl'.cons'
        exact ⟨_, rfl, D1, _, 0, _, rfl, rfl, .of (se _ _ el), atI_nat (j := 0) rfl, q2 _ (d1.tk (Same.tk se))⟩
end
end Pb

namespace Pb
open PySem PySem.Spec PyProof.Rows L2 TL
/-! ### where a piece is -/
abbrev s_stretch_at : Stmt := top 17
abbrev n_stretch_at : List Str := ["book", "piece", "section", "k", "own"]
abbrev p_stretch_at : List Str := ["book", "piece"]
theorem sc_stretch_at : FnScope n_stretch_at p_stretch_at (defScope s_stretch_at) := ⟨rfl, rfl, rfl, by decide +kernel, rfl, by decide +kernel, by decide +kernel⟩
abbrev s_l_where : Stmt := top 38
abbrev n_l_where : List Str := ["_law_book_here", "_law_piece", "_law_found", "_law_section_here", "_law_due", "_law_k"]
abbrev p_l_where : List Str := ["_law_book_here", "_law_piece"]
theorem sc_l_where : FnScope n_l_where p_l_where (defScope s_l_where) := ⟨rfl, rfl, rfl, by decide +kernel, rfl, by decide +kernel, by decide +kernel⟩
theorem eqv_pc (p q : Pc) : PyData.eqv (pcD p) (pcD q) = decide (p = q) := by
  obtain ⟨a, b, c⟩ := p
  obtain ⟨d, e, f⟩ := q
  show (PyData.eqv (.str a) (.str d) && (PyData.eqv (.str b) (.str e) && (PyData.eqv (.str c) (.str f) && true))) = _
  rw [eqv_str, eqv_str, eqv_str]
  by_cases h1 : a = d <;> by_cases h2 : b = e <;> by_cases h3 : c = f <;> simp [h1, h2, h3]
def PcOk (p : Pc) : Prop := Sh 8 p.1 ∧ Sh 8 p.2.1 ∧ Sh 8 p.2.2
theorem PcOk.ly {p : Pc} (h : PcOk p) : Ly 1 (pcD p) := .tup (.cons (.str h.1) (.cons (.str h.2.1) (.cons (.str h.2.2) .nil)))
theorem minS_mem (x y : Str) : minS x y = x ∨ minS x y = y := by
  unfold minS
  split
  · exact .inr rfl
  · exact .inl rfl
theorem maxS_mem (x y : Str) : maxS x y = x ∨ maxS x y = y := by
  unfold maxS
  split
  · exact .inr rfl
  · exact .inl rfl
structure SecPl (s : Sec) : Prop where
  nm : Nm s.nm
  ms : ∀ m ∈ s.ms, Nm m
  len : s.ms.length = s.ts.length + 1
  two : 2 ≤ s.ms.length
  few : s.ms.length ≤ 8
  ok : ∀ t ∈ s.ts, TriOk t
theorem BkOk.pl {b : Bk} (h : BkOk b) : ∀ s ∈ b.secs, SecPl s := fun s hs => by
  obtain ⟨ys, yn, _, ok⟩ := h.pool
  have o := ok s hs
  exact ⟨h.nms s hs, fun m hm => yn m (o.ms.sub m hm), o.len, o.ms.two, o.ms.few, o.ok⟩
theorem minS_sh {x y : Str} (h1 : Sh 8 x) (h2 : Sh 8 y) : Sh 8 (minS x y) := by
  rcases minS_mem x y with e | e <;> rw [e] <;> assumption
theorem maxS_sh {x y : Str} (h1 : Sh 8 x) (h2 : Sh 8 y) : Sh 8 (maxS x y) := by
  rcases maxS_mem x y with e | e <;> rw [e] <;> assumption
theorem pcs_ok {s : Sec} (h : SecPl s) : ∀ p ∈ pcs s, PcOk p := fun p hp => by
  obtain ⟨t, ht, rfl⟩ := List.mem_map.mp hp
  obtain ⟨m1, m2⟩ := waysL_mem ht
  have s1 := (h.ms _ m1).sh
  have s2 := (h.ms _ m2).sh
  exact ⟨h.nm.sh, minS_sh s1 s2, maxS_sh s1 s2⟩
def stF (p : Pc) : List Sec → Option (Str × Nat)
  | [] => none
  | s :: r => match (pcs s).findIdx? fun q => decide (q = p) with
    | some k => some (s.nm, k)
    | none => stF p r
def optD (o : Option (Str × Nat)) : PyData := match o with
  | some t => nkD t
  | none => .none
def spStretchAt : Sp := fun vs H Q _ => ∃ (v pv : V) (b : Bk) (p : Pc), vs = [v, pv] ∧ Dt H v (bookD b) ∧ Dt H pv (pcD p) ∧ PcOk p ∧ b.secs.length ≤ 8 ∧ (∀ s ∈ b.secs, SecPl s) ∧ ∀ (H' : Hp) (v' : V), Same H H' → Dt H' v' (optD (stF p b.secs)) → Q v' H'
theorem pcD_inv {H : Hp} {v : V} {p : Pc} (h : Dt H v (pcD p)) : ∃ a, v = .ref a ∧ H a = some (.tup [.str p.1, .str p.2.1, .str p.2.2]) := by
  obtain ⟨a, us, rfl, ea, u⟩ := h.tup'
  have e : us = [p.1, p.2.1, p.2.2].map V.str := u.strs
  subst e
  exact ⟨a, rfl, ea⟩
theorem stF_drop {p : Pc} {ss : List Sec} {k : Nat} {s : Sec} (e : ss[k]? = some s) : ss.drop k = s :: ss.drop (k + 1) := by
  obtain ⟨lt, ex⟩ := List.getElem?_eq_some_iff.mp e
  rw [← ex]
  exact (List.getElem_cons_drop lt).symm
section
variable {P : Program} {w : World} {K : PySem.W.Frag} {mg : Str → Option Value} {base : Heap}
theorem kn_stretchAt (D : Df K mg "stretch_at" s_stretch_at) (B : BG mg) (k_pieces_of : Kn P w K mg base "pieces_of" 2 p_pieces_of spPieces) : Kn P w K mg base "stretch_at" 3 p_stretch_at spStretchAt := by
  refine D.kn sc_stretch_at (fun _ _ _ _ _ _ us hl => match us, hl with | [_, _], _ => rfl) (fun vs H Q E h => ?_) (fun f cdv A outer s H vs Q E gd hr h => ?_)
  · obtain ⟨v, pcv, b, p, rfl, _⟩ := h
    rfl
  · obtain ⟨v, pcv, b, p, rfl, dv, dp, pok, bl, spl, q⟩ := h
    refine ⟨_, PSs.nox (pss_cons (ps_for PassesOwn.never rfl (pi_tup (pe_ix ix_tup (pv 0) pe_int (fun _ _ => rfl))) (pg_name (i := 2) sc_stretch_at.nd rfl (.inl rfl)) (pss_one (ps_for PassesOwn.never rfl (pi_enum rfl B.enumerate (pa_cons (pe_kn k_pieces_of gd (hr.mono (by decide)) rfl (pa_cons (pv 2) pa_nil)) pa_nil)) (pg_tup rfl (pgs_cons (pg_name (i := 3) sc_stretch_at.nd rfl (.inl rfl)) (pgs_cons (pg_name (i := 4) sc_stretch_at.nd rfl (.inl rfl)) pgs_nil))) (pss_one (ps_if (pt_cmpR (op_eqD hr.units) (pv 4) (pv 1) (nomark _)) (pss_one (ps_ret (pe_tup (pa_cons (pe_ix ix_tup (pv 2) pe_int (fun _ _ => rfl)) (pa_cons (pv 3) pa_nil))))) pss_nil))))) (pss_one (ps_ret pe_non))), ?_⟩
    dsimp only [cxOf]
    obtain ⟨a, s0, h0, e0, g0, us, ue, ug, rfl, ea, es, ts, _, _, _, _, _⟩ := bookD_inv dv
    have ul : us.length = b.secs.length := by rw [ts.len, List.length_map]
    refine ⟨_, rfl, a, _, 0, _, rfl, rfl, .of ea, atI_nat (j := 0) rfl, s0, rfl, ⟨_, .of es⟩, ?_⟩
    refine for_it (walk_tup (K := K) (a := s0) (xs := us)) (fun k σ H' => ∃ (y2 y3 y4 : Option V), σ = [some (.ref a), some pcv, y2, y3, y4] ∧ Same H H' ∧ stF p b.secs = stF p (b.secs.drop k)) ⟨none, none, none, rfl, Same.refl _, by rw [List.drop_zero]⟩ (fun i σ H' _ pv => ?_) (fun k x σ Ha Hb hk pv' y => ?_) (fun σ Ha pv' => ?_)
    · obtain ⟨_, _, _, _, sm, _⟩ := pv
      exact .of (sm _ _ es)
    · obtain ⟨y2, y3, y4, rfl, sm, eq1⟩ := pv'
      obtain ⟨rfl, gx⟩ := y
      obtain ⟨dd, gd', dx⟩ := (ts.tk (Same.tk sm)).getV k x gx
      rw [List.getElem?_map] at gd'
      obtain ⟨sk, gs, rfl⟩ := Option.map_eq_some_iff.mp gd'
      have skm : sk ∈ b.secs := List.mem_of_getElem? gs
      have pl := spl sk skm
      rw [stF_drop (p := p) gs] at eq1
      refine gName_go ?_
      try dsimp only
      refine ⟨_, rfl, x, sk, rfl, dx, pl.len, by have := pl.few; omega, fun H1 r s1 nr lr => ?_⟩
      obtain ⟨vr, er, tr⟩ := lr
      have vl : vr.length = (pcs sk).length := by rw [tr.len, List.length_map]
      refine ⟨r, _, rfl, .of er, ?_⟩
      refine for_it (walk_enum (K := K) (a := r) (xs := vr)) (fun j σ H' => ∃ (y3 y4 : Option V), σ = [some (.ref a), some pcv, some x, y3, y4] ∧ Same H1 H' ∧ ∀ z ∈ (pcs sk).take j, decide (z = p) = false) ⟨y3, y4, rfl, Same.refl _, fun _ h => (by simp at h)⟩ (fun i σ H' _ pv' => ?_) (fun j x2 σ Hc Hd hj pv' y => ?_) (fun σ Hc pv' => ?_)
      · obtain ⟨_, _, _, sm2, _⟩ := pv'
        exact .of (sm2 _ _ er)
      · obtain ⟨y3, y4, rfl, sm2, no⟩ := pv'
        obtain ⟨T, x1, z1, rfl, nT, rfl, g1, g2⟩ := y
        dsimp only at g1 g2
        cases g1
        obtain ⟨sT, eT⟩ := nxo (o := .tup [.int ((j : Nat) : Int), z1]) nT
        obtain ⟨dd, gd', dz⟩ := (tr.tk (Same.tk (sm2.trans sT))).getV j z1 g2
        rw [List.getElem?_map] at gd'
        obtain ⟨pc, gp, rfl⟩ := Option.map_eq_some_iff.mp gd'
        refine ⟨T, _, rfl, .of eT, rfl, _, _, rfl, _, _, rfl, rfl, ?_⟩
        try dsimp only
        have sAll := sm.trans (s1.trans (sm2.trans sT))
        refine ⟨_, rfl, _, rfl, _, _, dz.dp, (dp.tk (Same.tk sAll)).dp, (pcs_ok pl pc (List.mem_of_getElem? gp)).ly.shp (by decide), pok.ly.shp (by decide), _, rfl, ?_⟩
        rw [eqv_pc]
        refine ite2 (fun c => ?_) (fun c => ?_)
        · obtain ⟨pa, pm, pt, ut, rfl, ep, _⟩ := secD_inv dx
          refine ⟨_, rfl, pa, _, 0, _, rfl, rfl, .of (sT _ _ (sm2 _ _ (s1 _ _ ep))), atI_nat (j := 0) rfl, _, rfl, (by show 2 ≤ sizeLine; decide), fun t nt => ?_⟩
          obtain ⟨st, et⟩ := nxo (o := .tup [.str sk.nm, .int ((j : Nat) : Int)]) nt
          refine q _ _ (sAll.trans st) ?_
          rw [eq1]
          have fi : (pcs sk).findIdx? (fun q => decide (q = p)) = some j := by
            obtain ⟨lt, ex⟩ := List.getElem?_eq_some_iff.mp gp
            refine List.findIdx?_eq_some_iff_getElem.mpr ⟨lt, by rw [ex]; exact c, fun i hi => ?_⟩
            have : (pcs sk)[i] ∈ (pcs sk).take j := by
              rw [List.mem_take_iff_getElem]
              exact ⟨i, by omega, rfl⟩
            rw [no _ this]
            exact Bool.false_ne_true
          unfold stF
          rw [fi]
          exact .tup et (.cons (.str _) (.cons (.int _) .nil))
        · refine ⟨_, _, rfl, sm2.trans sT, fun z hz => ?_⟩
          rw [List.take_add_one, gp] at hz
          rcases List.mem_append.mp hz with h | h
          · exact no z h
          · rw [List.mem_singleton.mp h]
            exact Bool.eq_false_iff.mpr c
      · obtain ⟨y3, y4, rfl, sm2, no⟩ := pv'
        rw [vl, List.take_length] at no
        refine ⟨_, _, _, rfl, sm.trans (s1.trans sm2), ?_⟩
        rw [eq1]
        have fi : (pcs sk).findIdx? (fun q => decide (q = p)) = none := List.findIdx?_eq_none_iff.mpr fun z hz => no z hz
        show (match (pcs sk).findIdx? fun q => decide (q = p) with | some k => some (sk.nm, k) | none => stF p (b.secs.drop (k + 1))) = _
        rw [fi]
    · obtain ⟨y2, y3, y4, rfl, sm, eq1⟩ := pv'
      rw [ul, List.drop_length] at eq1
      refine q _ _ sm ?_
      rw [eq1]
      exact .non
def stL1 (p : Pc) (s : Sec) : List (Str × Nat) := ((List.range (pcs s).length).filter fun k => decide ((pcs s).getD k ("", "", "") = p)).map fun k => (s.nm, k)
def stL (p : Pc) (ss : List Sec) : List (Str × Nat) := (ss.map (stL1 p)).flatten
theorem range_find {α : Type} {P : α → Bool} (d : α) (l : List α) : (List.range l.length).find? (fun k => P (l.getD k d)) = l.findIdx? P := by
  cases h : l.findIdx? P with
  | none =>
    rw [List.find?_eq_none]
    intro k hk
    rw [List.mem_range] at hk
    rw [List.getD_eq_getElem?_getD, List.getElem?_eq_getElem hk]
    have := List.findIdx?_eq_none_iff.mp h l[k] (List.getElem_mem hk)
    show ¬ P l[k] = true
    rw [this]
    exact Bool.false_ne_true
  | some k =>
    obtain ⟨lt, pk, no⟩ := List.findIdx?_eq_some_iff_getElem.mp h
    refine find_at (k := k) (fun y hy => ?_) (List.getElem?_range lt) ?_
    · rw [List.take_range, List.mem_range] at hy
      have yl : y < l.length := by omega
      rw [List.getD_eq_getElem?_getD, List.getElem?_eq_getElem yl]
      exact Bool.eq_false_iff.mpr (no y (by omega))
    · rw [List.getD_eq_getElem?_getD, List.getElem?_eq_getElem lt]
      exact pk
theorem stL_head (p : Pc) : ∀ ss : List Sec, (stL p ss).head? = stF p ss
  | [] => rfl
  | s :: r => by
    show (stL1 p s ++ stL p r).head? = _
    rw [List.head?_append, stL_head p r]
    have e : (stL1 p s).head? = ((pcs s).findIdx? fun q => decide (q = p)).map fun k => (s.nm, k) := by
      unfold stL1
      rw [List.head?_map, List.head?_filter, range_find (P := fun q => decide (q = p)) ("", "", "") (pcs s)]
    rw [e]
    show _ = match (pcs s).findIdx? fun q => decide (q = p) with | some k => some (s.nm, k) | none => stF p r
    cases (pcs s).findIdx? fun q => decide (q = p) <;> rfl
theorem stL_snoc (p : Pc) (ss : List Sec) (s : Sec) : stL p (ss ++ [s]) = stL p ss ++ stL1 p s := by
  unfold stL
  rw [List.map_append, List.flatten_append]
  simp
theorem stL_mem {p : Pc} {ss : List Sec} {t : Str × Nat} (h : t ∈ stL p ss) : ∃ s ∈ ss, t.1 = s.nm := by
  obtain ⟨l, hl, ht⟩ := List.mem_flatten.mp h
  obtain ⟨s, hs, rfl⟩ := List.mem_map.mp hl
  obtain ⟨k, _, rfl⟩ := List.mem_map.mp ht
  exact ⟨s, hs, rfl⟩
theorem stL_len {p : Pc} : ∀ {ss : List Sec}, (∀ s ∈ ss, (pcs s).length ≤ 8) → (stL p ss).length ≤ 8 * ss.length
  | [], _ => Nat.zero_le _
  | s :: r, h => by
    have ih := stL_len (p := p) (ss := r) fun x hx => h x (List.mem_cons_of_mem _ hx)
    have h1 := h s List.mem_cons_self
    have h2 : (stL1 p s).length ≤ (pcs s).length := by
      unfold stL1
      rw [List.length_map]
      have := List.length_filter_le (fun k => decide ((pcs s).getD k ("", "", "") = p)) (List.range (pcs s).length)
      rw [List.length_range] at this
      exact this
    show (stL1 p s ++ stL p r).length ≤ 8 * (r.length + 1)
    rw [List.length_append]
    omega
theorem kn_lwhere (D : Df K mg "_law_where" s_l_where) (B : BG mg) (k_l_pieces : Kn P w K mg base "_law_pieces" 1 p_l_pieces spPieces) : Kn P w K mg base "_law_where" 2 p_l_where spStretchAt := by
  refine D.kn sc_l_where (fun _ _ _ _ _ _ us hl => match us, hl with | [_, _], _ => rfl) (fun vs H Q E h => ?_) (fun f cdv A outer s H vs Q E gd hr h => ?_)
  · obtain ⟨v, pcv, b, p, rfl, _⟩ := h
    rfl
  · obtain ⟨v, pcv, b, p, rfl, dv, dp, pok, bl, spl, q⟩ := h
    refine ⟨_, PSs.nox (pss_cons (ps_set (i := 2) sc_l_where.nd rfl (.inl rfl) (pe_lst pa_nil)) (pss_cons (ps_for PassesOwn.never rfl (pi_tup (pe_ix ix_tup (pv 0) pe_int (fun _ _ => rfl))) (pg_name (i := 3) sc_l_where.nd rfl (.inr rfl)) (pss_cons (ps_set (i := 4) sc_l_where.nd rfl (.inr rfl) (pe_kn k_l_pieces gd (hr.mono (by decide)) rfl (pa_cons (pv 3) pa_nil))) (pss_one (ps_set (i := 2) sc_l_where.nd rfl (.inl rfl) (pe_op op_catS (pv 2) (pe_lc (own := [("_law_k", 5)]) (g := gName 5) (tt := tTest (tOp (rEqD K) (tOp (rIxL K) (tVar 4) (tVar 5)) (tVar 1))) (te := tTup (tCons (tOp (rIxT K) (tVar 3) (tC (.int 0))) (tCons (tVar 5) (tNil)))) rfl sc_l_where.nd (pi_range1 rfl B.range (pa_cons (pe_callB call_len_seq rfl B.len PySem.boot_len (pa_cons (pv 4) pa_nil)) pa_nil)) (blkOk_by (N := n_l_where) (sc := defScope s_l_where) (by decide +kernel)) (fun _ _ _ _ _ => (pg_name (i := 5) sc_l_where.nd rfl (.inl rfl))) (fun _ _ _ _ _ => (pts_one (pt_cmpR (op_eqD hr.units) (pe_ix ix_list (pv 4) (pv 5) (fun _ _ => rfl)) (pv 1) (nomark _)))) (fun _ _ _ _ _ => (pe_tup (pa_cons (pe_ix ix_tup (pv 3) pe_int (fun _ _ => rfl)) (pa_cons (pv 5) pa_nil)))))))))) (pss_one (ps_ret (pe_ifExp (pt_cmpR (op_neD hr.units) (pv 2) (pe_lst pa_nil) (nomark _)) (pe_ix ix_list (pv 2) pe_int (fun _ _ => rfl)) pe_non))))), ?_⟩
    dsimp only [cxOf]
    obtain ⟨a, s0, h0, e0, g0, us, ue, ug, rfl, ea, es, ts, _, _, _, _, _⟩ := bookD_inv dv
    have ul : us.length = b.secs.length := by rw [ts.len, List.length_map]
    have p8 : ∀ s ∈ b.secs, (pcs s).length ≤ 8 := fun s hs => by
      rw [pcs_len]
      have := (spl s hs).few
      omega
    refine ⟨Nat.zero_le _, fun r nr => gName_go ?_⟩
    try dsimp only
    obtain ⟨sr, er⟩ := nxo (o := .lst []) nr
    generalize upd H r (.lst []) = H0 at sr er ⊢
    refine ⟨_, rfl, a, _, 0, _, rfl, rfl, .of (sr _ _ ea), atI_nat (j := 0) rfl, s0, rfl, ⟨_, .of (sr _ _ es)⟩, ?_⟩
    refine for_it (walk_tup (K := K) (a := s0) (xs := us)) (fun k σ H' => ∃ (r : Addr) (y3 y4 : Option V), σ = [some (.ref a), some pcv, some (.ref r), y3, y4, none] ∧ Same H H' ∧ LD H' r ((stL p (b.secs.take k)).map nkD)) ⟨r, none, none, rfl, sr, [], er, .nil⟩ (fun i σ H' _ pv => ?_) (fun k x σ Ha Hb hk pv' y => ?_) (fun σ Ha pv' => ?_)
    · obtain ⟨_, _, _, _, sm, _⟩ := pv
      exact .of (sm _ _ es)
    · obtain ⟨r, y3, y4, rfl, sm, vr, er, tr⟩ := pv'
      obtain ⟨rfl, gx⟩ := y
      obtain ⟨dd, gd', dx⟩ := (ts.tk (Same.tk sm)).getV k x gx
      rw [List.getElem?_map] at gd'
      obtain ⟨sk, gs, rfl⟩ := Option.map_eq_some_iff.mp gd'
      have skm : sk ∈ b.secs := List.mem_of_getElem? gs
      have pl := spl sk skm
      refine gName_go ?_
      try dsimp only
      refine ⟨_, rfl, x, sk, rfl, dx, pl.len, by have := pl.few; omega, fun H1 rd s1 nrd lrd => gName_go ?_⟩
      try dsimp only
      obtain ⟨vd, ed, td⟩ := lrd
      have vl : vd.length = (pcs sk).length := by rw [td.len, List.length_map]
      have tk : b.secs.take (k + 1) = b.secs.take k ++ [sk] := by
        rw [List.take_add_one, gs]
        rfl
      obtain ⟨pa, pm, pt, ut, rfl, ep, _⟩ := secD_inv dx
      refine asgE_go (op_go (var_go rfl (lc_in ⟨_, rfl, rd, _, rfl, .inl (.of ed), ((vd.length : Nat) : Int), rfl, ?_, ?_, ?_⟩)))
      · omega
      · have := p8 sk skm
        omega
      rw [Int.toNat_natCast]
      refine lc_rng (p := fun k => decide ((pcs sk).getD k ("", "", "") = p)) (gd := fun k => nkD (sk.nm, k)) ?_ (fun j x H2 N1 N0 hj sm2 dx2 n1 n0 => ⟨wiped, ?_⟩) fun H2 D2 s2 nD2 l2 => ?_
      · have := p8 sk skm
        omega
      · have hj' : j < (pcs sk).length := by
          rw [← vl]
          exact List.mem_range.mp hj
        have e := dx2.int'
        subst e
        have gj : (pcs sk)[j]? = some ((pcs sk).getD j ("", "", "")) := by
          rw [List.getD_eq_getElem?_getD, List.getElem?_eq_getElem hj']
          rfl
        obtain ⟨vz, gz, dz⟩ := td.get j (pcD ((pcs sk).getD j ("", "", ""))) (by rw [List.getElem?_map, gj]; rfl)
        have sAll := sm.trans (s1.trans sm2)
        have pcok := pcs_ok pl _ (List.mem_of_getElem? gj)
        refine ⟨_, rfl, _, rfl, rd, _, _, _, rfl, rfl, .of (sm2 _ _ ed), atI_nat' (j := j) (by omega) gz, _, rfl, _, _, (dz.tk (Same.tk sm2)).dp, (dp.tk (Same.tk sAll)).dp, pcok.ly.shp (by decide), pok.ly.shp (by decide), _, rfl, ?_⟩
        rw [eqv_pc]
        refine ite2 (fun c => ?_) (fun c => ?_)
        · refine ⟨_, rfl, pa, _, 0, _, rfl, rfl, .of (sm2 _ _ (s1 _ _ ep)), atI_nat (j := 0) rfl, _, rfl, (by show 2 ≤ sizeLine; decide), fun u nu => ?_⟩
          obtain ⟨su, eu⟩ := nxo (o := .tup [.str sk.nm, .int (0 + (j : Nat))]) nu
          refine n1 _ _ su c (.tup eu (.cons (.str _) (.cons ?_ .nil)))
          have e0 : (0 + (j : Int)) = ((j : Nat) : Int) := by omega
          rw [e0]
          exact .int _
        · exact n0 _ (Same.refl _) (Bool.eq_false_iff.mpr c)
      · obtain ⟨v2, e2, t2⟩ := l2
        rw [vl] at t2
        have e1' : ((List.range (pcs sk).length).filter fun k => decide ((pcs sk).getD k ("", "", "") = p)).map (fun k => nkD (sk.nm, k)) = (stL1 p sk).map nkD := by
          unfold stL1
          rw [List.map_map]
          rfl
        rw [e1'] at t2
        have nl := stL_len (p := p) (ss := b.secs.take (k + 1)) fun s hs => p8 s (List.mem_of_mem_take hs)
        rw [tk, stL_snoc, List.length_append, List.length_append, List.length_take] at nl
        have lv := tr.len
        have lv1 := t2.len
        rw [List.length_map] at lv lv1
        have s12 := s1.trans s2
        refine ⟨r, D2, _, _, rfl, rfl, .of (s12 _ _ er), .of e2, ?_, fun r3 nr3 => gName_go ⟨r3, _, _, rfl, ?_⟩⟩
        · exact Nat.le_of_lt (len20k (by simp at nl; omega))
        · obtain ⟨s3, e3⟩ := nxo (o := .lst (vr ++ v2)) nr3
          refine ⟨sm.trans (s12.trans s3), _, e3, ?_⟩
          rw [tk, stL_snoc, List.map_append]
          exact ((tr.tk (Same.tk s12)).app t2).tk (Same.tk s3)
    · obtain ⟨r, y3, y4, rfl, sm, vl', el, tl'⟩ := pv'
      rw [ul, List.take_length] at tl'
      dsimp only
      refine ret_go (show tIf _ _ _ _ _ _ from ?_)
      refine ⟨_, rfl, Nat.zero_le _, fun e ne => ?_⟩
      obtain ⟨se, ee⟩ := nxo (o := .lst []) ne
      have ly : Ly 2 (.list ((stL p b.secs).map nkD)) := .lst (.map _ fun t ht => by
        obtain ⟨s, hs, e1⟩ := stL_mem ht
        refine .tup (.cons (.str (k := 8) ?_) (.cons (.int _) .nil))
        rw [e1]
        exact (spl s hs).nm.sh)
      refine ⟨_, .list [], .lst (.of (se _ _ el)) (tl'.tk (Same.tk se)).dp, .lst (.of ee) .nil, ly.shp (by decide), rfl, _, rfl, ?_⟩
      rw [eqv_nilL]
      have hd := stL_head p b.secs
      have q2 := fun v => q _ v (sm.trans se)
      rw [← hd] at q2
      generalize stL p b.secs = fl at tl' q2 ly ⊢
      match fl, tl', q2 with
      | [], tl', q2 => exact q2 _ .non
      | g :: r', tl', q2 =>
        obtain ⟨v1, r1, rfl, d1, t1⟩ := tl'.cons'
        exact ⟨_, rfl, r, _, 0, _, rfl, rfl, .of (se _ _ el), atI_nat (j := 0) rfl, q2 _ (d1.tk (Same.tk se))⟩
end
end Pb

namespace Pb
open PySem PySem.Spec PyProof.Rows L2 TL
/-! ### defs that need no showing, or raise -/
theorem ps_nox {X : Cx} {st : Stmt} {t : TS} (h : PS X.nox st t) : PS X st t := ⟨fun pins s σ H D I hw => wpAny_mono (h.run pins s σ H D (I.wish _) hw) (fun _ _ q => q.unwish) fun _ _ z => False.elim z⟩
def KnO (P : Program) (w : World) (K : PySem.W.Frag) (mg : Str → Option Value) (base : Heap) (CX : CXT) (x : Str) (k : Nat) (ps : List Str) (sp : Sp) : Prop :=
  ∃ (f : Addr) (fd : FuncData), PySem.W.keepIn K (.ref f) = true ∧ mg x = some (.ref f) ∧ Binds K fd ps [] ∧ FnOk P w K mg base CX k f fd ps sp
section
variable {X : Cx} {k : Nat} {ps : List Str} {sp : Sp} {x : Str} {p pos : Pos} {e : Expr} {es : List Expr} {t : TA}
theorem pe_kno (N : KnO X.prog X.w X.K X.mg X.base CX0 x k ps sp) (hr : Room k X.A) (hg : Gl X x) (ha : PA X (e :: es) t) (hdb : (x == ("__debug__" : Str)) = false := by decide)
    (he : starEach (e :: es) X.env = (false, eval e X.env) :: starEach es X.env := by rfl) (hpl : (backTo pos (starEach es X.env)).any (·.1) = false := by rfl) : PE X (.Call (.Name x p) (e :: es) [] pos) (tCall sp [] E0 t) := by
  obtain ⟨f, fd, kp, g, b, G⟩ := N
  exact pe_call G hr hg g kp b .nil pass0 ha hdb he hpl
theorem pe_knx {E : XK} (N : KnO X.prog X.w X.K X.mg X.base (L2.CX X.prog X.w) x k ps sp) (hr : Room k X.A) (hg : Gl X x) (tk : Takes X (fun cls d _ H => E cls d H)) (ha : PA X (e :: es) t) (hdb : (x == ("__debug__" : Str)) = false := by decide)
    (he : starEach (e :: es) X.env = (false, eval e X.env) :: starEach es X.env := by rfl) (hpl : (backTo pos (starEach es X.env)).any (·.1) = false := by rfl) : PE X (.Call (.Name x p) (e :: es) [] pos) (tCall sp [] E t) := by
  obtain ⟨f, fd, kp, g, b, G⟩ := N
  exact pe_call G hr hg g kp b .nil (passes_call tk fun _ _ _ _ h => h) ha hdb he hpl
theorem pe_knS {W : WX} (N : KnO X.prog X.w X.K X.mg X.base (L2.CX X.prog X.w) x k ps sp) (hr : Room k X.A) (hg : Gl X x) (tk : Takes X W) (ha : PA X (e :: es) t) (hdb : (x == ("__debug__" : Str)) = false := by decide)
    (he : starEach (e :: es) X.env = (false, eval e X.env) :: starEach es X.env := by rfl) (hpl : (backTo pos (starEach es X.env)).any (·.1) = false := by rfl) : PE X (.Call (.Name x p) (e :: es) [] pos) (tCallS sp (WE W) t) := by
  obtain ⟨f, fd, kp, g, b, G⟩ := N
  exact pe_callS G hr hg g kp b (fun σ => passAt tk σ) ha hdb he hpl
end
/-! ### how arguments come to an __init__ -/
section
variable {K : PySem.W.Frag} {x qual : Str} {params : Arguments} {body : List Stmt} {scope : Scope} {dvs : List V} {kws : List (Str × V)} {f : Addr} {fd : FuncData} {ps : List Str}
theorem kb0 (F : FunD K x qual params body scope [] kws f fd) (n : Nat) (ks : List Str) (g : {α : Type} → List α → List α → List α)
    (hrel : ∀ {vs zs : List V} {us ws : List Value}, Vals vs us → Vals zs ws → Vals (g vs zs) (g us ws))
    (h : ∀ (kV doc pm : Value) (an : Option Addr) (cdv ct : Value) (us ws : List Value), us.length = n → ws.length = ks.length → bindArgs (PySem.W.fnOf x qual params body scope .none kV doc pm an cdv ct) ⟨us, ks.zip ws⟩ = pure (ps.zip (g us ws))) :
    KBn K fd ps n ks (fun us ws => g us ws) (fun vs zs => g vs zs) := by
  obtain ⟨oc, od, dV, kV, doc, pm, an, cdv, ct, osl, efd, lk, hcd, hD, hK⟩ := F.ex
  subst efd
  rcases hD with ⟨_, e⟩ | ⟨e, _⟩
  · subst e
    exact ⟨fun s us ws X l1 l2 => .of_eq (h kV doc pm an cdv ct us ws l1 l2), hrel⟩
  · exact absurd rfl e
end
abbrev sIni (i : Nat) : Stmt := inClass (top i) 0
abbrev FnI (K : PySem.W.Frag) (q : Str) (i : Nat) (dvs : List V) (f : Addr) (fd : FuncData) : Prop := FunD K "__init__" q (defArgs (sIni i)) (defBody (sIni i)) (defScope (sIni i)) dvs [] f fd
def spI1 (C : Addr) (n : Str) : Sp := fun vs H Q _ => ∃ (a : Addr) (v : V), vs = [.ref a, v] ∧ H a = some (exo a C none) ∧ ∀ dx, H dx = none → dx ≠ a → Q .non (upd (upd H dx (exd dx [(n, v)])) a (exo a C (some dx)))
def cS (K : PySem.W.Frag) : Addr := He.ga K "NoSection"
structure XS (K : PySem.W.Frag) (mg : Str → Option Value) : Prop where
  gS : mg "NoSection" = some (.ref (cS K))
  gB : mg "NoBook" = some (.ref (He.ga K "NoBook"))
  gT : mg "NotTold" = some (.ref (He.ga K "NotTold"))
  gN : mg "NotThere" = some (.ref (He.ga K "NotThere"))
  tS : XC K (cS K) mroL "LookupError.__new__"
  fld : PySem.W.findIn K (.ref (cS K)) "name" = some none
  ini : ∃ fI fd, PySem.W.findIn K (.ref (cS K)) "__init__" = some (some (.ref fI)) ∧ PySem.W.typeIn K (.ref fI) = some (.type "function") ∧ FnI K "NoSection.__init__" 3 [] fI fd
  mN : PySem.W.exmOne K (.ref (cS K)) (.ref (He.ga K "NotThere")) = some true
  oS : PySem.W.kitAny K (.ref (cS K)) [.ref (He.ga K "NoBook"), .ref (He.ga K "NotTold")] = some false
  ss : PySem.W.kitOne K (.ref (cS K)) (.ref (cS K)) = some true
theorem scI : FnScope ["self", "name"] ["self", "name"] (defScope (sIni 3)) := ⟨rfl, rfl, rfl, by decide +kernel, rfl, by decide +kernel, by decide +kernel⟩
section
variable {P : Program} {w : World} {K : PySem.W.Frag} {mg : Str → Option Value} {base : Heap} {f C : Addr} {fd : FuncData} {bmB : List Value} {newId : String} {dvs : List V}
theorem ok_ini (B : XB bmB newId) (T : XC K C bmB newId) (no : PySem.W.findIn K (.ref C) "name" = some none) (F : FnI K "NoSection.__init__" 3 dvs f fd) : FnOk P w K mg base CX0 1 f fd ["self", "name"] (spI1 C "name") := by
  refine F.ok scI (fun vs H Q E h => ?_) (fun cdv A outer s H vs Q E hr h => ?_)
  · obtain ⟨a, v, rfl, _⟩ := h
    rfl
  · obtain ⟨a, v, rfl, e, q⟩ := h
    exact ⟨_, PSs.nox (pss_one (ps_xst (pv 0) (pv 1))), _, rfl, _, rfl, a, C, bmB, newId, rfl, B, T, no, .inl ⟨e, q⟩⟩
end
section
variable {X : Cx} {p pos : Pos} {e : Expr} {t : TA}
theorem px_sec (C : XS X.K X.mg) (hr : Room 2 X.A) (ha : PA X [e] t) (hg : Gl X "NoSection" := by rfl) (he : starEach [e] X.env = [(false, eval e X.env)] := by rfl) :
    PE X (.Call (.Name "NoSection" p) [e] [] pos) (tXnew (cS X.K) 1 0 (spI1 (cS X.K) "name") (fun vs _ => vs) t tNil) := by
  obtain ⟨fI, fd, i1, i2, F⟩ := C.ini
  exact pe_xnew xbL C.tS i1 i2 (ok_ini xbL C.tS C.fld F) hr (kb0 F 2 [] (fun us _ => us) (fun r _ => r) fun _ _ _ _ _ _ us ws l1 l2 => match us, ws, l1, l2 with | [_, _], [], _, _ => rfl) pass0 hg C.gS ha (by decide) he (by rfl)
end
section
variable {H : Hp} {a d C : Addr} {n : Str} {v u : V}
/-- behind the raise of a refusal with one field -/
theorem rs1 (na : H a = none) (nd : upd H a (exo a C none) d = none) (ne : d ≠ a) :
    Same H (delH (upd (upd (upd (upd H a (exo a C none)) d (exd d [(n, v)])) a (exo a C (some d))) d (.xd [(n, v)])) a) ∧
    (delH (upd (upd (upd (upd H a (exo a C none)) d (exd d [(n, v)])) a (exo a C (some d))) d (.xd [(n, v)])) a) d = some (.xd [(n, v)]) ∧
    (upd (upd (upd H a (exo a C none)) d (exd d [(n, v)])) a (exo a C (some d))) d = some (exd d [(n, v)]) := by
  rw [upd_ne ne] at nd
  refine ⟨fun b o e => ?_, ?_, ?_⟩
  · rw [delH_ne (ne_of_none e na), upd_ne (ne_of_none e nd), upd_ne (ne_of_none e na), upd_ne (ne_of_none e nd), upd_ne (ne_of_none e na)]
    exact e
  · rw [delH_ne ne, upd_same]
  · rw [upd_ne ne, upd_same]
end
def RsK (K : PySem.W.Frag) (cls : Value) : Prop := ∀ (M : Model) (h : Heap), K.In h → PySem.W.Looks M h (isSubtype cls (.type "BaseException")) true ∧ PySem.W.Looks M h (typeOf cls) (.type "type")
def rMk (K : PySem.W.Frag) (H0 : Hp) (te : TE) : L2.St → Hp → XK → Prop := fun σ H Q => te σ H fun x H1 => ∃ (a C d : Addr) (fs : List (Str × V)), x = .ref a ∧ H1 a = some (exo a C (some d)) ∧ H1 d = some (exd d fs) ∧ d ≠ a ∧ Fr0 H0 a ∧ RsK K (.ref C) ∧
  Q (.ref C) (some d) (delH (upd H1 d (.xd fs)) a)
theorem pmk_r {X : Cx} {e : Expr} {te : TE} (hx : X.ex = []) (he : PE X e te) : PMk X e (rMk X.K X.H_0 te) := pmk_x hx he
theorem rsK {K : PySem.W.Frag} {C : Addr} {bmB : List Value} {newId : String} (T : XC K C bmB newId) : RsK K (.ref C) := fun _ _ k => ⟨PySem.W.looks_subIn k T.sub, PySem.W.looks_typeIn k T.ty⟩
def tRs (m : L2.St → Hp → XK → Prop) (W : WX) : TS := fun _ σ H => m σ H fun cls d H' => W cls d σ H'
/-! ### is_name -/
abbrev s_is_name : Stmt := top 8
abbrev n_is_name : List Str := ["thing", "sign"]
abbrev p_is_name : List Str := ["thing"]
theorem sc_is_name : FnScope n_is_name p_is_name (defScope s_is_name) := ⟨rfl, rfl, rfl, by decide +kernel, rfl, by decide +kernel, by decide +kernel⟩
def rInS : R2 := fun x y H Q => ∃ (c : Nat) (z : Str), x = .str ⟨#[c]⟩ ∧ y = .str z ∧ Q (.bl (decide (c ∈ z.cps.toList))) H
def nameL (z : Str) : Bool := decide (1 ≤ z.length) && (decide (z.length ≤ 8) && z.cps.toList.all fun c => decide (c ∈ ltr.cps.toList))
def nameV (x : V) : Bool := match x with
  | .str z => nameL z
  | _ => false
theorem Kd.isS {H : Hp} {x : V} {T : String} (h : Kd H x T) : kitB T "str" = some (decide (T = "str")) := by
  cases h <;> decide +kernel
def spName (K : PySem.W.Frag) : Sp := fun vs H Q _ => ∃ (x : V) (T : String), vs = [x] ∧ Kd H x T ∧ (∀ z, x = .str z → z.cps.size ≤ 20000) ∧ ∀ H', Same H H' → Q (.bl (nameV x)) H'
theorem lc_sign {z : Str} {σ : L2.St} {H : Hp} {Q : VK} (h0 : σ[0]? = some (some (.str z))) (hi : 1 < σ.length) (hz : z.cps.size ≤ 20000)
    (q : ∀ H' p, Same H H' → H p = none → LD H' p (z.cps.toList.map fun c => .bool (decide (c ∈ ltr.cps.toList))) → Q (.ref p) H') : tLc (iStr (tVar 0)) (gName 1) tYes (tOp rInS (tVar 1) (tC (.str ltr))) [1] σ H Q := by
  refine lc_in ⟨_, h0, z, rfl, ?_⟩
  refine lc_gen (xs := z.cps.toList) (f := fun c => .str ⟨#[c]⟩) (p := fun _ => true) (gd := fun c => .bool (decide (c ∈ ltr.cps.toList))) (walk_str (z := z)) Array.length_toList hz (fun _ _ => trivial) (fun i a H1 x H2 ga s y => ?_) (fun a x H1 N1 N0 ha sm dx n1 n0 => ⟨wiped, ?_⟩) fun H' D sm nD l => ?_
  · obtain ⟨rfl, c, gc, rfl⟩ := y
    rw [Array.getElem?_toList] at ga
    rw [gc] at ga
    cases ga
    exact ⟨Same.refl _, .str _⟩
  · have e := dx.str'
    subst e
    dsimp only [tYes]
    rw [if_pos rfl]
    exact ⟨_, gOwn hi, a, ltr, rfl, rfl, n1 _ _ (Same.refl _) rfl (.bl _)⟩
  · rw [List.filter_eq_self.mpr (fun _ _ => rfl)] at l
    exact q H' D sm nD l
theorem DtAll.bools {H : Hp} : ∀ {vs : List V} {xs : List Bool}, DtAll H vs (xs.map .bool) → vs = xs.map V.bl
  | vs, [], h => h.nil'
  | vs, x :: xs, h => by
    obtain ⟨v, r, rfl, a, b⟩ := h.cons'
    cases a
    rw [DtAll.bools b]
    rfl
section
variable {P : Program} {w : World} {K : PySem.W.Frag} {mg : Str → Option Value} {base : Heap}
theorem kn_isName (D : Df K mg "is_name" s_is_name) (B : BG mg) {t1 t2 : Tok} (gL : mg "LETTERS" = some (.str ltr t1)) (gN : mg "LONGEST_NAME" = some (.int 8 t2)) : KnO P w K mg base CX0 "is_name" 1 p_is_name (spName K) := by
  obtain ⟨f, fd, F, g⟩ := D
  refine ⟨f, fd, F.kp, g, F.bindsN fun _ _ _ _ _ _ us hl => match us, hl with | [_], _ => rfl, F.ok sc_is_name (fun vs H Q E h => ?_) (fun cdv A outer s H vs Q E hr h => ?_)⟩
  · obtain ⟨x, T, rfl, _⟩ := h
    rfl
  · obtain ⟨x, T, rfl, hk, hz, q⟩ := h
    refine ⟨_, PSs.nox (pss_cons (ps_if (PW.pt (pw_or (pt_not (pt_val (pe_callB call_isi rfl B.isinstance boot_isinstance (pa_cons (pv 0) (pa_cons (pe_bltn (v := .ty "str") rfl B.str PyProof.Rows.boot_str rfl) pa_nil)))))
        (pw_or1 (pt_not (pt_chain op_le op_le pe_int (pe_callB call_len rfl B.len PySem.boot_len (pa_cons (pv 0) pa_nil)) (pe_glob (v := .int 8) rfl gN ⟨_, rfl⟩)))))) (pss_one (ps_ret pe_bl)) pss_nil)
      (pss_one (ps_ret (pe_callB (cr_all rfl) rfl B.all (by decide +kernel) (pa_cons (pe_lc (own := [("sign", 1)]) (g := gName 1) (tt := tYes) (te := tOp rInS (tVar 1) (tC (.str ltr))) rfl sc_is_name.nd (pi_str (pv 0)) (blkOk_by (N := n_is_name) (sc := defScope s_is_name) (by decide +kernel))
        (fun _ _ _ _ _ => pg_name (i := 1) sc_is_name.nd rfl (.inl rfl)) (fun _ _ _ _ _ => pts_nil) (fun _ _ _ _ _ => pe_cmpR op_in_sign (pv 1) (pe_glob rfl gL ⟨_, rfl⟩) rfl)) pa_nil))))), ?_⟩
    dsimp only [cxOf]
    refine ⟨_, rfl, x, _, _, _, _, rfl, .ty "str", hk.ty, kit_ty hk.isS, _, rfl, ?_⟩
    cases hk with
    | str z =>
      have zl := hz z rfl
      refine iteF ⟨_, rfl, .str z, z.length, rfl, ⟨Nat.le_of_lt (len20k (Nat.le_trans zl (by decide))), rfl⟩, _, _, rfl, rfl, _, rfl, ?_⟩
      have no : nameL z = false → Q (.bl false) H := fun e => by
        have qq := q H (Same.refl _)
        rw [show nameV (.str z) = nameL z from rfl, e] at qq
        exact qq
      by_cases c1 : (1 : Int) ≤ z.length
      · rw [decide_eq_true c1]
        refine iteT ⟨_, _, rfl, rfl, _, rfl, ?_⟩
        by_cases c2 : (z.length : Int) ≤ 8
        · rw [decide_eq_true c2]
          refine iteF (ret_go (cB_go (cons_go (lc_sign rfl (Nat.lt_of_sub_eq_succ rfl) zl fun H' p sm np l => ?_))))
          obtain ⟨vs, e, t⟩ := l
          have e2 : z.cps.toList.map (fun c => PyData.bool (decide (c ∈ ltr.cps.toList))) = (z.cps.toList.map fun c => decide (c ∈ ltr.cps.toList)).map .bool := by rw [List.map_map]; rfl
          rw [e2] at t
          rw [t.bools] at e
          refine ⟨p, _, rfl, .of e, ?_⟩
          have nl : nameL z = z.cps.toList.all fun c => decide (c ∈ ltr.cps.toList) := by
            unfold nameL
            rw [decide_eq_true (by omega), decide_eq_true (by omega)]
            rfl
          have qq := q H' sm
          rw [List.all_map]
          show Q (.bl (z.cps.toList.all fun c => decide (c ∈ ltr.cps.toList))) H'
          rw [← nl]
          exact qq
        · rw [decide_eq_false c2]
          refine iteT (no ?_)
          unfold nameL
          rw [decide_eq_false (show ¬ z.length ≤ 8 by omega), Bool.false_and, Bool.and_false]
      · rw [decide_eq_false c1]
        refine iteF ⟨_, rfl, iteT (no ?_)⟩
        unfold nameL
        rw [decide_eq_false (show ¬ 1 ≤ z.length by omega)]
        rfl
    | _ => exact iteT (q H (Same.refl _))
end
end Pb

namespace Pb
open PySem PySem.Spec PyProof.Rows L2 TL
/-! ### section_of, besides_of -/
abbrev s_section_of : Stmt := top 13
abbrev n_section_of : List Str := ["book", "name", "section"]
abbrev p_section_of : List Str := ["book", "name"]
theorem sc_section_of : FnScope n_section_of p_section_of (defScope s_section_of) := ⟨rfl, rfl, rfl, by decide +kernel, rfl, by decide +kernel, by decide +kernel⟩
abbrev s_besides_of : Stmt := top 15
abbrev n_besides_of : List Str := ["book", "name", "own", "beside", "other"]
abbrev p_besides_of : List Str := ["book", "name"]
theorem sc_besides_of : FnScope n_besides_of p_besides_of (defScope s_besides_of) := ⟨rfl, rfl, rfl, by decide +kernel, rfl, by decide +kernel, by decide +kernel⟩
/-- a name, or a thing that is none -/
structure NV (K : PySem.W.Frag) (H : Hp) (x : V) (d : PyData) : Prop where
  dp : Dp K H x d
  kd : ∃ T, Kd H x T
  sh : ∀ z, x = .str z → Sh 8 z
  sm : Sm 20 3 d
  ly : Ly 3 d
  ns : (∀ z, x ≠ .str z) → ∀ z, PyData.eqv (.str z) d = false
theorem NV.same {K : PySem.W.Frag} {H H' : Hp} {x : V} {d : PyData} (h : NV K H x d) (s : Same H H') : NV K H' x d := by
  obtain ⟨T, k⟩ := h.kd
  exact ⟨Dp.same s h.dp, ⟨T, k.same s⟩, h.sh, h.sm, h.ly, h.ns⟩
theorem NV.str {K : PySem.W.Frag} {H : Hp} {z : Str} {d : PyData} (h : NV K H (.str z) d) : d = .str z := by
  cases h.dp
  rfl
def secF (ss : List Sec) (x : V) : Option Sec := match x with
  | .str z => ss.find? fun s => decide (s.nm = z)
  | _ => none
def spSectionOf (K : PySem.W.Frag) : Sp := fun vs H Q E => ∃ (v x : V) (b : Bk) (d : PyData), vs = [v, x] ∧ Dt H v (bookD b) ∧ (∀ s ∈ b.secs, Nm s.nm) ∧ NV K H x d ∧
  (∀ s, secF b.secs x = some s → ∀ H' v', Same H H' → Dt H' v' (secD s) → Q v' H') ∧ (secF b.secs x = none → ∀ H' e, Same H H' → H' e = some (.xd [("name", x)]) → E (.ref (cS K)) (some e) H')
def beO (b : Bk) (nm : Str) : PyData := match b.bes.find? fun l => decide (nm ∈ l) with
  | some l => .tuple ((l.filter fun y => !decide (y = nm)).map .str)
  | none => .tuple []
def spBesidesOf (K : PySem.W.Frag) : Sp := fun vs H Q E => ∃ (v x : V) (b : Bk) (d : PyData), vs = [v, x] ∧ Dt H v (bookD b) ∧ (∀ s ∈ b.secs, Nm s.nm) ∧ (∀ l ∈ b.bes, l.length ≤ 4) ∧ NV K H x d ∧
  (∀ s, secF b.secs x = some s → ∀ H' v', Same H H' → Dt H' v' (beO b s.nm) → Q v' H') ∧ (secF b.secs x = none → ∀ H' e, Same H H' → H' e = some (.xd [("name", x)]) → E (.ref (cS K)) (some e) H')
theorem nm_nameL {z : Str} (h : Nm z) : nameL z = true := by
  unfold nameL
  obtain ⟨h1, h2, h3⟩ := h
  have l : z.length = (tl z).length := len_tl z
  rw [decide_eq_true (by omega), decide_eq_true (by omega)]
  show (z.cps.toList.all fun c => decide (c ∈ ltr.cps.toList)) = true
  rw [List.all_eq_true]
  intro c hc
  have lw : Lw c := h1 c hc
  refine decide_eq_true ?_
  have all : ∀ i, i < 26 → (97 + i) ∈ ltr.cps.toList := by decide +kernel
  have := all (c - 97) (by unfold Lw at lw; omega)
  have e : 97 + (c - 97) = c := by unfold Lw at lw; omega
  rw [e] at this
  exact this
section
variable {P : Program} {w : World} {K : PySem.W.Frag} {mg : Str → Option Value} {base : Heap}
theorem kn_sectionOf (D : Df K mg "section_of" s_section_of) (B : BG mg) (C : XS K mg) (k_is_name : KnO P w K mg base CX0 "is_name" 1 p_is_name (spName K)) : KnO P w K mg base (L2.CX P w) "section_of" 3 p_section_of (spSectionOf K) := by
  obtain ⟨f, fd, F, g⟩ := D
  refine ⟨f, fd, F.kp, g, F.bindsN fun _ _ _ _ _ _ us hl => match us, hl with | [_, _], _ => rfl, F.ok sc_section_of (fun vs H Q E h => ?_) (fun cdv A outer s H vs Q E hr h => ?_)⟩
  · obtain ⟨v, x, b, d, rfl, _⟩ := h
    rfl
  · obtain ⟨v, x, b, d, rfl, dv, snm, nv, q1, q2⟩ := h
    refine ⟨tSeq _ (tRs (rMk K H (tXnew (cS K) 1 0 (spI1 (cS K) "name") (fun vs _ => vs) (tCons (tVar 1) tNil) tNil)) fun cls d _ H => E cls d H), pss_cons (ps_nox (ps_if (pt_val (pe_kno k_is_name (hr.mono (by decide)) rfl (pa_cons (pv 1) pa_nil))) (pss_one (ps_for PassesOwn.never rfl (pi_tup (pe_ix ix_tup (pv 0) pe_int (fun _ _ => rfl))) (pg_name (i := 2) sc_section_of.nd rfl (.inl rfl)) (pss_one (ps_if (pt_cmpR (op_eqD hr.units) (pe_ix ix_tup (pv 2) pe_int (fun _ _ => rfl)) (pv 1) (nomark _)) (pss_one (ps_ret (pv 2))) pss_nil)))) pss_nil)) (pss_one (ps_raise (W := fun cls d _ H => E cls d H) rfl (takes_of rfl rfl rfl rfl) (by exact pmk_r rfl (px_sec C hr (pa_cons (pv 1) pa_nil))))), ?_⟩
    dsimp only [cxOf]
    obtain ⟨a, s0, h0, e0, g0, us, ue, ug, rfl, ea, es, ts, _, _, _, _, _⟩ := bookD_inv dv
    have ul : us.length = b.secs.length := by rw [ts.len, List.length_map]
    have out : secF b.secs x = none → ∀ (H' : Hp) (y2 : Option V) (D' : Ends), Same H H' → tRs (rMk K H (tXnew (cS K) 1 0 (spI1 (cS K) "name") (fun vs _ => vs) (tCons (tVar 1) tNil) tNil)) (fun cls d _ H => E cls d H) D' [some (.ref a), some x, y2] H' := fun no H' y2 D' sm => by
      refine ⟨_, rfl, rfl, rfl, by decide, fun a1 n1 => ⟨a1, _, rfl, upd_same, fun d1 m1 e1 => ⟨rfl, a1, cS K, d1, [("name", x)], rfl, upd_same, (rs1 n1 m1 e1).2.2, e1, fr0_none (sm.free n1), rsK C.tS, ?_⟩⟩⟩
      obtain ⟨sA, ex, _⟩ := rs1 (C := cS K) (n := "name") (v := x) n1 m1 e1
      exact q2 no _ d1 (sm.trans sA) ex
    obtain ⟨T, kd⟩ := nv.kd
    refine ⟨_, rfl, x, T, rfl, kd, (fun z e => by
      have := (nv.sh z e).2
      have e2 : z.cps.size = (tl z).length := Array.length_toList.symm
      omega), fun H1 s1 => ⟨_, rfl, ite2 (fun c => ?_) (fun c => ?_)⟩⟩
    · cases kd with
      | str z =>
        refine ⟨_, rfl, a, _, 0, _, rfl, rfl, .of (s1 _ _ ea), atI_nat (j := 0) rfl, s0, rfl, ⟨_, .of (s1 _ _ es)⟩, ?_⟩
        refine for_it (walk_tup (K := K) (a := s0) (xs := us)) (fun k σ H' => ∃ y2 : Option V, σ = [some (.ref a), some (.str z), y2] ∧ Same H H' ∧ ∀ s ∈ b.secs.take k, decide (s.nm = z) = false) ⟨none, rfl, s1, fun _ h => (by simp at h)⟩ (fun i σ H' _ pv => ?_) (fun k x σ Ha Hb hk pv y => ?_) (fun σ Ha pv => ?_)
        · obtain ⟨_, _, sm, _⟩ := pv
          exact .of (sm _ _ es)
        · obtain ⟨y2, rfl, sm, no⟩ := pv
          obtain ⟨rfl, gx⟩ := y
          obtain ⟨dd, gd', dx⟩ := (ts.tk (Same.tk sm)).getV k x gx
          rw [List.getElem?_map] at gd'
          obtain ⟨sk, gs, rfl⟩ := Option.map_eq_some_iff.mp gd'
          obtain ⟨pa, pm, pt, ut, rfl, ep, _⟩ := secD_inv dx
          refine gName_go ?_
          try dsimp only
          have e3 := (nv.same sm).str
          refine ⟨_, rfl, pa, _, 0, _, rfl, rfl, .of ep, atI_nat (j := 0) rfl, _, rfl, .str sk.nm, .str z, .str _, .str _, (Ly.str (snm sk (List.mem_of_getElem? gs)).sh).shp (by decide), (Ly.str (nv.sh z rfl)).shp (by decide), _, rfl, ?_⟩
          rw [eqv_str]
          refine ite2 (fun c => ?_) (fun c => ?_)
          · exact ⟨_, rfl, q1 sk (find_at (p := fun s : Sec => decide (s.nm = z)) no gs c) _ _ sm dx⟩
          · refine ⟨_, rfl, sm, fun s hs => ?_⟩
            rw [List.take_add_one, gs] at hs
            rcases List.mem_append.mp hs with h | h
            · exact no s h
            · rw [List.mem_singleton.mp h]
              exact Bool.eq_false_iff.mpr c
        · obtain ⟨y2, rfl, sm, no⟩ := pv
          rw [ul, List.take_length] at no
          exact out (List.find?_eq_none.mpr fun y hy => by rw [no y hy]; exact Bool.false_ne_true) _ _ ⟨fun _ _ => True, fun _ _ => True, fun _ _ => True, fun _ _ => True⟩ sm
      | _ => exact absurd c Bool.false_ne_true
    · refine out ?_ _ _ ⟨fun _ _ => True, fun _ _ => True, fun _ _ => True, fun _ _ => True⟩ s1
      cases kd with
      | str z =>
        refine List.find?_eq_none.mpr fun s hs h => c ?_
        have e := of_decide_eq_true h
        show nameL z = true
        rw [← e]
        exact nm_nameL (snm s hs)
      | _ => rfl
theorem lc_others {σ : L2.St} {H : Hp} {Q : VK} {p : Addr} {l : List Str} {nm : Str} (h3 : σ[3]? = some (some (.ref p))) (h2 : σ[2]? = some (some (.str nm))) (hi : 4 < σ.length) (ep : H p = some (.tup (l.map V.str))) (hl : l.length ≤ 1000)
    (q : ∀ H' D, Same H H' → H D = none → H' D = some (.lst ((l.filter fun y => !decide (y = nm)).map V.str)) → Q (.ref D) H') : tLc (iTup K (tVar 3)) (gName 4) (tTest (tOp rNe (tVar 4) (tVar 2))) (tVar 4) [4] σ H Q := by
  refine lc_in ⟨_, h3, p, rfl, ⟨_, .of ep⟩, ?_⟩
  refine lc_tup (K := K) (p := fun y => !decide (y = nm)) (gd := .str) (f := .str) ep (dtAll_strs l) (by omega) (fun a x H1 N1 N0 ha sm dx n1 n0 => ⟨wiped, ?_⟩) fun H' D sm nD l => q H' D sm nD l.strs
  have e := dx.str'
  subst e
  refine ⟨_, gOwn hi, _, gOth h2 (by decide), rfl, _, rfl, ?_⟩
  rw [eq_str]
  refine ite2 (fun c => ?_) (fun c => ?_)
  · exact ⟨_, gOwn hi, n1 _ _ (Same.refl _) c (.str _)⟩
  · exact n0 _ (Same.refl _) (Bool.eq_false_iff.mpr c)
theorem kn_besidesOf (D : Df K mg "besides_of" s_besides_of) (B : BG mg) (C : XS K mg) (k_section_of : KnO P w K mg base (L2.CX P w) "section_of" 3 p_section_of (spSectionOf K)) : KnO P w K mg base (L2.CX P w) "besides_of" 4 p_besides_of (spBesidesOf K) := by
  obtain ⟨f, fd, F, g⟩ := D
  refine ⟨f, fd, F.kp, g, F.bindsN fun _ _ _ _ _ _ us hl => match us, hl with | [_, _], _ => rfl, F.ok sc_besides_of (fun vs H Q E h => ?_) (fun cdv A outer s H vs Q E hr h => ?_)⟩
  · obtain ⟨v, x, b, d, rfl, _⟩ := h
    rfl
  · obtain ⟨v, x, b, d, rfl, dv, snm, bl, nv, q1, q2⟩ := h
    refine ⟨_, pss_cons (ps_set (i := 2) sc_besides_of.nd rfl (.inr rfl) (pe_ix ix_tup (pe_knx (E := E) k_section_of hr rfl (takes_of rfl rfl rfl rfl) (pa_cons (pv 0) (pa_cons (pv 1) pa_nil))) pe_int (fun _ _ => rfl))) (PSs.nox (pss_cons (ps_for PassesOwn.never rfl (pi_tup (pe_ix ix_tup (pv 0) pe_int (fun _ _ => rfl))) (pg_name (i := 3) sc_besides_of.nd rfl (.inl rfl)) (pss_one (ps_if (pt_cmpR op_in_seq (pv 2) (pv 3) rfl) (pss_one (ps_ret (pe_callTy call_tuple_of rfl B.tuple bt_tuple (pa_cons (pe_lc (own := [("other", 4)]) (g := gName 4) (tt := tTest (tOp rNe (tVar 4) (tVar 2))) (te := tVar 4) rfl sc_besides_of.nd (pi_tup (pv 3)) (blkOk_by (N := n_besides_of) (sc := defScope s_besides_of) (by decide +kernel)) (fun _ _ _ _ _ => (pg_name (i := 4) sc_besides_of.nd rfl (.inl rfl))) (fun _ _ _ _ _ => (pts_one (pt_cmpR op_ne (pv 4) (pv 2) (nomark _)))) (fun _ _ _ _ _ => (pv 4))) pa_nil)))) pss_nil))) (pss_one (ps_ret (pe_tup pa_nil))))), ?_⟩
    dsimp only [cxOf]
    refine ⟨_, rfl, _, rfl, v, x, b, d, rfl, dv, snm, nv, fun sk es1 H1 v' s1 dx => ?_, fun no => q2 no⟩
    obtain ⟨pa, pm, pt, ut, rfl, ep, _⟩ := secD_inv dx
    refine ⟨pa, _, 0, _, rfl, rfl, .of ep, atI_nat (j := 0) rfl, gName_go ?_⟩
    try dsimp only
    obtain ⟨a, s0, h0, e0, g0, us, ue, ug, rfl, ea, es, ts, _, ee, te, _, _⟩ := bookD_inv dv
    have ul : ue.length = b.bes.length := by rw [te.len, List.length_map]
    refine ⟨_, rfl, a, _, 2, _, rfl, rfl, .of (s1 _ _ ea), atI_nat (j := 2) rfl, e0, rfl, ⟨_, .of (s1 _ _ ee)⟩, ?_⟩
    refine for_it (walk_tup (K := K) (a := e0) (xs := ue)) (fun k σ H' => ∃ y3 : Option V, σ = [some (.ref a), some x, some (.str sk.nm), y3, none] ∧ Same H H' ∧ ∀ l ∈ b.bes.take k, decide (sk.nm ∈ l) = false) ⟨none, rfl, s1, fun _ h => (by simp at h)⟩ (fun i σ H' _ pv => ?_) (fun k x2 σ Ha Hb hk pv y => ?_) (fun σ Ha pv => ?_)
    · obtain ⟨_, _, sm, _⟩ := pv
      exact .of (sm _ _ ee)
    · obtain ⟨y3, rfl, sm, no⟩ := pv
      obtain ⟨rfl, gx⟩ := y
      obtain ⟨dd, gd', dx2⟩ := (te.tk (Same.tk sm)).getV k x2 gx
      rw [List.getElem?_map] at gd'
      obtain ⟨l, gl, rfl⟩ := Option.map_eq_some_iff.mp gd'
      obtain ⟨pl, ul', rfl, epl, tl'⟩ := dx2.tup'
      have e2 := tl'.strs
      subst e2
      have ll := bl l (List.mem_of_getElem? gl)
      refine gName_go ?_
      try dsimp only
      refine ⟨_, rfl, _, rfl, pl, _, rfl, .inr (.of epl), rfl, flat_strs l, _, rfl, ?_⟩
      rw [inV_str]
      refine ite2 (fun c => ?_) (fun c => ?_)
      · refine ret_go (cB_go (cons_go (lc_others (K := K) rfl rfl (Nat.lt_of_sub_eq_succ rfl) epl (by omega) fun H2 D2 s2 nD2 e2 => ⟨D2, _, rfl, .inl ⟨.of e2, fun p np => ?_⟩⟩)))
        obtain ⟨s3, e3⟩ := nxo (o := .tup ((l.filter fun y => !decide (y = sk.nm)).map V.str)) np
        refine q1 sk es1 _ _ (sm.trans (s2.trans s3)) ?_
        unfold beO
        rw [find_at (p := fun l : List Str => decide (sk.nm ∈ l)) no gl c]
        exact .tup e3 (dtAll_strs _)
      · refine ⟨_, rfl, sm, fun s hs => ?_⟩
        rw [List.take_add_one, gl] at hs
        rcases List.mem_append.mp hs with h | h
        · exact no s h
        · rw [List.mem_singleton.mp h]
          exact Bool.eq_false_iff.mpr c
    · obtain ⟨y3, rfl, sm, no⟩ := pv
      rw [ul, List.take_length] at no
      refine ⟨Nat.zero_le _, fun p np => ?_⟩
      obtain ⟨s3, e3⟩ := nxo (o := .tup []) np
      refine q1 sk es1 _ _ (sm.trans s3) ?_
      unfold beO
      rw [List.find?_eq_none.mpr fun y hy => by rw [no y hy]; exact Bool.false_ne_true]
      exact .tup e3 .nil
end
end Pb

namespace Pb
open PySem PySem.Spec PyProof.Rows L2 TL
/-! ### what is told of names -/
abbrev s_l_told : Stmt := top 34
abbrev n_l_told : List Str := ["_law_way", "_law_book_here", "_law_name", "_law_e", "_law_found", "error"]
abbrev p_l_told : List Str := ["_law_way", "_law_book_here", "_law_name"]
theorem sc_l_told : FnScope n_l_told p_l_told (defScope s_l_told) := ⟨rfl, rfl, rfl, by decide +kernel, rfl, by decide +kernel, by decide +kernel⟩
def pfx : Str := "no section "
theorem pfx_sh : Sh 11 pfx := by
  have h : (tl pfx).all (fun c => decide (c < 128)) = true ∧ (tl pfx).length ≤ 11 := by decide +kernel
  exact ⟨fun c hc => of_decide_eq_true (List.all_eq_true.mp h.1 c hc), h.2⟩
theorem quote_two (x : Str) : reprQuote x = 39 ∨ reprQuote x = 34 := by
  unfold reprQuote
  split
  · exact .inr rfl
  · exact .inl rfl
theorem rchar_lt {q c : Nat} (hq : q = 39 ∨ q = 34) (hc : Lw c) : ∀ d ∈ Builtin.Str.reprChar q c, d < 128 := by
  have a : ∀ i, i < 26 → (∀ d ∈ Builtin.Str.reprChar 39 (97 + i), d < 128) ∧ ∀ d ∈ Builtin.Str.reprChar 34 (97 + i), d < 128 := by decide +kernel
  have e : 97 + (c - 97) = c := by unfold Lw at hc; omega
  have h := a (c - 97) (by unfold Lw at hc; omega)
  rw [e] at h
  rcases hq with z | z
  · rw [z]
    exact h.1
  · rw [z]
    exact h.2
theorem rfold_lt {q : Nat} (hq : q = 39 ∨ q = 34) : ∀ (l : List Nat) (acc : Array Nat), (∀ c ∈ l, Lw c) → (∀ d ∈ acc.toList, d < 128) → ∀ d ∈ (l.foldl (fun out c => out ++ (Builtin.Str.reprChar q c).toArray) acc).toList, d < 128
  | [], acc, _, h => h
  | c :: r, acc, hl, h => by
    refine rfold_lt hq r _ (fun d hd => hl d (List.mem_cons_of_mem _ hd)) fun d hd => ?_
    rw [Array.toList_append] at hd
    rcases List.mem_append.mp hd with z | z
    · exact h d z
    · exact rchar_lt hq (hl c List.mem_cons_self) d z
theorem repr_sh {z : Str} (h : Nm z) : Sh 82 (reprText z) := by
  refine ⟨fun d hd => ?_, ?_⟩
  · have e : tl (reprText z) = (z.cps.foldl (fun out c => out ++ (Builtin.Str.reprChar (reprQuote z) c).toArray) #[reprQuote z]).toList ++ [reprQuote z] := by
      show ((z.cps.foldl (fun out c => out ++ (Builtin.Str.reprChar (reprQuote z) c).toArray) #[reprQuote z]).push (reprQuote z)).toList = _
      rw [Array.toList_push]
    rw [e] at hd
    have q := quote_two z
    rcases List.mem_append.mp hd with y | y
    · rw [← Array.foldl_toList] at y
      refine rfold_lt q z.cps.toList _ h.1 (fun d hd => ?_) d y
      have : d = reprQuote z := by simpa using hd
      rw [this]
      rcases q with e | e <;> rw [e] <;> decide
    · rw [List.mem_singleton.mp y]
      rcases q with e | e <;> rw [e] <;> decide
  · have l := StrLaws.reprText_len z fun c hc => Nat.lt_trans (Nat.lt_of_le_of_lt (h.1 c hc).2 (by decide)) (by decide : (123 : Nat) < 16 ^ 8)
    have e1 : (reprText z).length = (tl (reprText z)).length := len_tl _
    have e2 : z.length = (tl z).length := len_tl _
    have := h.2.2
    omega
/-- a name, or a thing that is none, and how it is shown -/
structure NS (K : PySem.W.Frag) (H : Hp) (x : V) (d : PyData) : Prop where
  nv : NV K H x d
  rp : Sh 82 d.shown
theorem NS.same {K : PySem.W.Frag} {H H' : Hp} {x : V} {d : PyData} (h : NS K H x d) (s : Same H H') : NS K H' x d := ⟨h.nv.same s, h.rp⟩
def noT (d : PyData) : Str := pfx ++ d.shown
theorem noT_sh {d : PyData} (h : Sh 82 d.shown) : Sh 93 (noT d) := (pfx_sh.app h).mono (by decide)
def toldD (b : Bk) (x : V) (d : PyData) (way : Int) : PyData := match secF b.secs x with
  | some s => if way = 0 then secD s else beO b s.nm
  | none => .str (noT d)
def spTold (K : PySem.W.Frag) : Sp := fun vs H Q _ => ∃ (way : Int) (v x : V) (b : Bk) (d : PyData), vs = [.int way, v, x] ∧ Dt H v (bookD b) ∧ BkOk b ∧ NS K H x d ∧ ∀ (H' : Hp) (v' : V), Same H H' → Dt H' v' (toldD b x d way) → Q v' H'
def spDue (K : PySem.W.Frag) (way : Int) : Sp := fun vs H Q _ => ∃ (v x : V) (b : Bk) (d : PyData), vs = [v, x] ∧ Dt H v (bookD b) ∧ BkOk b ∧ NS K H x d ∧ ∀ (H' : Hp) (v' : V), Same H H' → Dt H' v' (toldD b x d way) → Q v' H'
def tTry (K : PySem.W.Frag) (W : WX) : TS := tAsg (tIf (tTest (tOp rEq (tVar 0) (tC (.int 0)))) (tCallS (spSectionOf K) (WE W) (tCons (tVar 1) (tCons (tVar 2) tNil))) (tCallS (spBesidesOf K) (WE W) (tCons (tVar 1) (tCons (tVar 2) tNil)))) (gName 4)
section
variable {P : Program} {w : World} {K : PySem.W.Frag} {mg : Str → Option Value} {base : Heap}
theorem kn_told (D : Df K mg "_law_told" s_l_told) (B : BG mg) (C : XS K mg) (k_section_of : KnO P w K mg base (L2.CX P w) "section_of" 3 p_section_of (spSectionOf K)) (k_besides_of : KnO P w K mg base (L2.CX P w) "besides_of" 4 p_besides_of (spBesidesOf K)) : Kn P w K mg base "_law_told" 5 p_l_told (spTold K) := by
  refine D.kn sc_l_told (fun _ _ _ _ _ _ us hl => match us, hl with | [_, _, _], _ => rfl) (fun vs H Q E h => ?_) (fun f cdv A outer s H vs Q E gd hr h => ?_)
  · obtain ⟨way, v, x, b, d, rfl, _⟩ := h
    rfl
  · obtain ⟨way, v, x, b, d, rfl, dv, bok, ns, q⟩ := h
    refine ⟨_, PSs.nox (pss_cons (ps_set (i := 3) sc_l_told.nd rfl (.inl rfl) pe_non) (pss_cons (ps_set (i := 4) sc_l_told.nd rfl (.inl rfl) pe_non) (pss_cons (ps_tryG (i := 5) (CL := fun cls => PySem.W.exmOne K cls (.ref (He.ga K "NotThere"))) (tb := tTry K) (ts := fun a cls d => tAsg (tVar 5) (gName 3)) (Wout := fun _ _ _ _ => False) rfl rfl rfl sc_l_told.nd rfl rfl (cl_one ⟨rfl, by decide, .inl C.gN⟩) takes0 (fun W pn xe tk _ => (pss_one (ps_set (i := 4) sc_l_told.nd rfl (.inl rfl) (by exact (pe_ifExp (pt_cmpR op_eq (pv 0) pe_int (nomark _)) (pe_knS k_section_of (hr.mono (by decide)) rfl tk (pa_cons (pv 1) (pa_cons (pv 2) pa_nil))) (pe_knS k_besides_of (hr.mono (by decide)) rfl tk (pa_cons (pv 1) (pa_cons (pv 2) pa_nil)))))))) (fun a oe cls d pn hz hf => (pss_one (ps_set (i := 3) sc_l_told.nd rfl (.inl rfl) (pv 5))))) (pss_cons (ps_if (pt_cmp (pc_isN (pv 3))) (pss_one (ps_ret (pv 4))) pss_nil) (pss_cons (ps_if (PW.pt (pw_or (pt_val (pe_callB call_isXT rfl B.isinstance boot_isinstance (pa_cons (pv 3) (pa_cons (pe_tup (pa_cons (pe_glob (v := .ref (He.ga K "NoBook")) rfl C.gB rfl) (pa_cons (pe_glob (v := .ref (He.ga K "NotTold")) rfl C.gT rfl) pa_nil))) pa_nil)))) (pw_or1 (pt_not (pt_val (pe_callB call_isX rfl B.isinstance boot_isinstance (pa_cons (pv 3) (pa_cons (pe_glob (v := .ref (cS K)) rfl C.gS rfl) pa_nil)))))))) (pss_one (ps_ret pe_str)) pss_nil) (pss_one (ps_ret (pe_op op_add_str pe_str (pe_callB (call_reprA gd hr) rfl B.repr boot_repr (pa_cons (pe_xfld (pv 3)) pa_nil)))))))))), ?_⟩
    dsimp only [cxOf]
    have isx : ∀ us : List Value, Vals [V.ref (He.ga K "NoBook"), V.ref (He.ga K "NotTold")] us → us = [Value.ref (He.ga K "NoBook"), Value.ref (He.ga K "NotTold")] := fun us hv => by
      cases hv with
      | cons a1 r => cases r with
        | cons a2 r =>
          cases r
          rw [show _ = _ from a1, show _ = _ from a2]
    refine ⟨_, rfl, rfl, _, rfl, ?_⟩
    by_cases c : way = 0
    · rw [decide_eq_true (congrArg V.int c)]
      refine iteT ⟨_, rfl, _, rfl, v, x, b, d, rfl, dv, bok.nms, ns.nv, fun s es H1 v' s1 dt => ?_, fun no H1 e s1 ex => ?_⟩
      · refine ⟨_, rfl, true, rfl, iteT ⟨_, rfl, q H1 v' s1 ?_⟩⟩
        unfold toldD
        rw [es]
        show Dt H1 v' (if way = 0 then secD s else beO b s.nm)
        rw [if_pos c]
        exact dt
      · skip
        refine ⟨true, C.mN, fun _ a na => ⟨_, rfl, fun na2 => ?_⟩, fun z => nomatch z⟩
        have ne : e ≠ a := ne_none ex na
        obtain ⟨s2, ea⟩ := nxo (o := exk a (.ref (cS K)) (some e)) na
        have xi : ExI (upd H1 a (exk a (.ref (cS K)) (some e))) a (cS K) (some [("name", x)]) := ⟨e, .inr ⟨ea, s2 _ _ ex⟩⟩
        generalize upd H1 a (exk a (.ref (cS K)) (some e)) = H2 at s2 xi ⊢
        refine ⟨_, rfl, false, rfl, iteF ⟨_, rfl, (by show 2 ≤ sizeLine; decide), fun tp ntp => ?_⟩⟩
        obtain ⟨s3, etp⟩ := nxo (o := .tup [V.ref (He.ga K "NoBook"), V.ref (He.ga K "NotTold")]) ntp
        have x3 := xi.same s3
        refine ⟨a, cS K, tp, _, _, _, _, _, false, rfl, x3, C.tS, .of etp, isx, C.oS, false, rfl, iteF ⟨_, rfl, a, cS K, _, _, _, .ref (cS K), .ref (cS K), true, rfl, x3, C.tS, rfl, fun u r => r, C.ss, true, rfl, iteF ?_⟩⟩
        have s4 := s1.trans (s2.trans s3)
        refine ⟨_, rfl, a, cS K, _, _, _, x, rfl, x3, C.tS, C.fld, lk1 _ _, x, d, 20, 3, rfl, (ns.nv.same s4).dp, ns.nv.sm, by decide, by decide, _, _, rfl, rfl, ?_, ?_⟩
        · have := (noT_sh ns.rp).len
          exact Nat.le_of_lt (len20k (by
            have l1 := pfx_sh.len
            have l2 := ns.rp.len
            show pfx.length + d.shown.length ≤ 30000
            omega))
        · refine q _ _ s4 ?_
          unfold toldD
          rw [no]
          exact .str _
    · rw [decide_eq_false (fun z => c (V.int.inj z))]
      refine iteF ⟨_, rfl, _, rfl, v, x, b, d, rfl, dv, bok.nms, (fun l hl => (bok.bes.some l hl).2), ns.nv, fun s es H1 v' s1 dt => ?_, fun no H1 e s1 ex => ?_⟩
      · refine ⟨_, rfl, true, rfl, iteT ⟨_, rfl, q H1 v' s1 ?_⟩⟩
        unfold toldD
        rw [es]
        show Dt H1 v' (if way = 0 then secD s else beO b s.nm)
        rw [if_neg c]
        exact dt
      · skip
        refine ⟨true, C.mN, fun _ a na => ⟨_, rfl, fun na2 => ?_⟩, fun z => nomatch z⟩
        have ne : e ≠ a := ne_none ex na
        obtain ⟨s2, ea⟩ := nxo (o := exk a (.ref (cS K)) (some e)) na
        have xi : ExI (upd H1 a (exk a (.ref (cS K)) (some e))) a (cS K) (some [("name", x)]) := ⟨e, .inr ⟨ea, s2 _ _ ex⟩⟩
        generalize upd H1 a (exk a (.ref (cS K)) (some e)) = H2 at s2 xi ⊢
        refine ⟨_, rfl, false, rfl, iteF ⟨_, rfl, (by show 2 ≤ sizeLine; decide), fun tp ntp => ?_⟩⟩
        obtain ⟨s3, etp⟩ := nxo (o := .tup [V.ref (He.ga K "NoBook"), V.ref (He.ga K "NotTold")]) ntp
        have x3 := xi.same s3
        refine ⟨a, cS K, tp, _, _, _, _, _, false, rfl, x3, C.tS, .of etp, isx, C.oS, false, rfl, iteF ⟨_, rfl, a, cS K, _, _, _, .ref (cS K), .ref (cS K), true, rfl, x3, C.tS, rfl, fun u r => r, C.ss, true, rfl, iteF ?_⟩⟩
        have s4 := s1.trans (s2.trans s3)
        refine ⟨_, rfl, a, cS K, _, _, _, x, rfl, x3, C.tS, C.fld, lk1 _ _, x, d, 20, 3, rfl, (ns.nv.same s4).dp, ns.nv.sm, by decide, by decide, _, _, rfl, rfl, ?_, ?_⟩
        · have := (noT_sh ns.rp).len
          exact Nat.le_of_lt (len20k (by
            have l1 := pfx_sh.len
            have l2 := ns.rp.len
            show pfx.length + d.shown.length ≤ 30000
            omega))
        · refine q _ _ s4 ?_
          unfold toldD
          rw [no]
          exact .str _
end
end Pb

namespace Pb
open PySem PySem.Spec PyProof.Rows L2 TL
abbrev s_l_section_due : Stmt := top 35
abbrev n_l_section_due : List Str := ["_law_book_here", "_law_name", "_law_found", "_law_section_here"]
abbrev p_l_section_due : List Str := ["_law_book_here", "_law_name"]
theorem sc_l_section_due : FnScope n_l_section_due p_l_section_due (defScope s_l_section_due) := ⟨rfl, rfl, rfl, by decide +kernel, rfl, by decide +kernel, by decide +kernel⟩
abbrev s_l_beside : Stmt := top 32
abbrev n_l_beside : List Str := ["_law_book_here", "_law_name", "_law_beside_here", "_law_at", "_law_section_here", "_law_k"]
abbrev p_l_beside : List Str := ["_law_book_here", "_law_name"]
theorem sc_l_beside : FnScope n_l_beside p_l_beside (defScope s_l_beside) := ⟨rfl, rfl, rfl, by decide +kernel, rfl, by decide +kernel, by decide +kernel⟩
theorem sec_ly {s : Sec} (h : SecPl s) : Ly 3 (secD s) := by
  have a : LyA 0 (s.ms.map .str) := .map _ fun m hm => .str (h.ms m hm).sh
  have b : LyA 1 (s.ts.map triD) := .map _ fun t _ => .tup (.cons (.int _) (.cons (.int _) (.cons (.int _) .nil)))
  exact .tup (.cons (.str h.nm.sh) (.cons (.tup a) (.cons (.tup b) .nil)))
/-- whether the name of a section is that thing -/
def isN (x : V) (s : Sec) : Bool := match x with
  | .str z => decide (s.nm = z)
  | _ => false
theorem isN_eqv {K : PySem.W.Frag} {H : Hp} {x : V} {d : PyData} (h : NV K H x d) (s : Sec) : PyData.eqv (.str s.nm) d = isN x s := by
  match x, h with
  | .str z, h =>
    rw [h.str, eqv_str]
    rfl
  | .non, h => exact h.ns (fun z e => nomatch e) _
  | .bl _, h => exact h.ns (fun z e => nomatch e) _
  | .int _, h => exact h.ns (fun z e => nomatch e) _
  | .byt _, h => exact h.ns (fun z e => nomatch e) _
  | .flt _, h => exact h.ns (fun z e => nomatch e) _
  | .ref _, h => exact h.ns (fun z e => nomatch e) _
  | .ty _, h => exact h.ns (fun z e => nomatch e) _
theorem secF_find (ss : List Sec) (x : V) : secF ss x = ss.find? (isN x) := by
  match x with
  | .str z => rfl
  | .non => exact (List.find?_eq_none.mpr fun _ _ => Bool.false_ne_true).symm
  | .bl _ => exact (List.find?_eq_none.mpr fun _ _ => Bool.false_ne_true).symm
  | .int _ => exact (List.find?_eq_none.mpr fun _ _ => Bool.false_ne_true).symm
  | .byt _ => exact (List.find?_eq_none.mpr fun _ _ => Bool.false_ne_true).symm
  | .flt _ => exact (List.find?_eq_none.mpr fun _ _ => Bool.false_ne_true).symm
  | .ref _ => exact (List.find?_eq_none.mpr fun _ _ => Bool.false_ne_true).symm
  | .ty _ => exact (List.find?_eq_none.mpr fun _ _ => Bool.false_ne_true).symm
theorem noT_room {d : PyData} (h : Sh 82 d.shown) : pfx.length + d.shown.length ≤ sizeLine := by
  have l1 := pfx_sh.len
  have l2 := h.len
  exact Nat.le_of_lt (len20k (by omega))
section
variable {P : Program} {w : World} {K : PySem.W.Frag} {mg : Str → Option Value} {base : Heap}
theorem kn_secDue (D : Df K mg "_law_section_due" s_l_section_due) (B : BG mg) : Kn P w K mg base "_law_section_due" 1 p_l_section_due (spDue K 0) := by
  refine D.kn sc_l_section_due (fun _ _ _ _ _ _ us hl => match us, hl with | [_, _], _ => rfl) (fun vs H Q E h => ?_) (fun f cdv A outer s H vs Q E gd hr h => ?_)
  · obtain ⟨v, x, b, d, rfl, _⟩ := h
    rfl
  · obtain ⟨v, x, b, d, rfl, dv, bok, ns, q⟩ := h
    refine ⟨_, PSs.nox (pss_cons (ps_setLc (i := 2) (own := [("_law_section_here", 3)]) (g := gName 3) (tt := tTest (tOp (rEqD K) (tOp (rIxT K) (tVar 3) (tC (.int 0))) (tVar 1))) (te := tVar 3) rfl sc_l_section_due.nd rfl rfl (sw_true rfl rfl rfl (by decide +kernel)) (pi_tup (pe_ix ix_tup (pv 0) pe_int (fun _ _ => rfl))) (blkOk_by (N := n_l_section_due) (sc := defScope s_l_section_due) (by decide +kernel)) (fun _ _ _ _ _ => (pg_name (i := 3) sc_l_section_due.nd rfl (.inl rfl))) (fun _ _ _ _ _ => (pts_one (pt_cmpR (op_eqD hr.units) (pe_ix ix_tup (pv 3) pe_int (fun _ _ => rfl)) (pv 1) (nomark _)))) (fun _ _ _ _ _ => (pv 3))) (pss_one (ps_ret (pe_ifExp (pt_cmpR (op_neD hr.units) (pv 2) (pe_lst pa_nil) (nomark _)) (pe_ix ix_list (pv 2) pe_int (fun _ _ => rfl)) (pe_op op_add_str pe_str (pe_callB (call_reprA gd hr) rfl B.repr boot_repr (pa_cons (pv 1) pa_nil))))))), ?_⟩
    dsimp only [cxOf]
    obtain ⟨a, s0, h0, e0, g0, us, ue, ug, rfl, ea, es, ts, _, _, _, _, _⟩ := bookD_inv dv
    have pl := bok.pl
    refine asg_go (lc_in ⟨_, rfl, a, _, 0, _, rfl, rfl, .of ea, atI_nat (j := 0) rfl, s0, rfl, ⟨_, .of es⟩, ?_⟩)
    refine lc_tup (K := K) (xs := b.secs) (f := secD) (p := isN x) (gd := secD) es ts (by have := bok.few; omega) (fun s x2 H1 N1 N0 hs sm dx n1 n0 => ⟨wiped, ?_⟩) fun H1 D1 s1 nD1 l1 => ?_
    · obtain ⟨pa, pm, pt, ut, rfl, ep, _⟩ := secD_inv dx
      refine ⟨_, gOwn (Nat.lt_of_sub_eq_succ rfl), pa, _, 0, _, rfl, rfl, .of ep, atI_nat (j := 0) rfl, _, gOth (σ := [some (.ref a), some x, none, none]) rfl (by decide), _, _, .str _, (ns.nv.same sm).dp, (Ly.str (pl s hs).nm.sh).shp (by decide), ns.nv.ly.shp (by decide), _, rfl, ?_⟩
      rw [isN_eqv ns.nv]
      refine ite2 (fun c => ?_) (fun c => ?_)
      · exact ⟨_, gOwn (Nat.lt_of_sub_eq_succ rfl), n1 _ _ (Same.refl _) c dx⟩
      · exact n0 _ (Same.refl _) (Bool.eq_false_iff.mpr c)
    · refine gName_go ?_
      try dsimp only
      refine ret_go (show tIf _ _ _ _ _ _ from ?_)
      obtain ⟨vl, el, tl'⟩ := l1
      refine ⟨_, rfl, Nat.zero_le _, fun e ne => ?_⟩
      obtain ⟨se, ee⟩ := nxo (o := .lst []) ne
      have ly : Ly 4 (.list ((b.secs.filter (isN x)).map secD)) := .lst (.map _ fun s hs => sec_ly (pl s (List.mem_filter.mp hs).1))
      refine ⟨_, .list [], .lst (.of (se _ _ el)) (tl'.tk (Same.tk se)).dp, .lst (.of ee) .nil, ly.shp (by decide), rfl, _, rfl, ?_⟩
      rw [eqv_nilL]
      have hd : (b.secs.filter (isN x)).head? = secF b.secs x := by rw [List.head?_filter, secF_find]
      have q2 := fun v => q _ v (s1.trans se)
      unfold toldD at q2
      rw [← hd] at q2
      generalize (b.secs.filter (isN x)) = fl at tl' q2 ly ⊢
      match fl, tl', q2 with
      | [], tl', q2 =>
        refine ⟨_, rfl, x, d, 20, 3, rfl, (ns.nv.same (s1.trans se)).dp, ns.nv.sm, by decide, by decide, _, _, rfl, rfl, noT_room ns.rp, q2 _ (.str _)⟩
      | g :: r, tl', q2 =>
        obtain ⟨v1, r1, rfl, d1, t1⟩ := tl'.cons'
        exact ⟨_, rfl, D1, _, 0, _, rfl, rfl, .of (se _ _ el), atI_nat (j := 0) rfl, q2 _ (d1.tk (Same.tk se))⟩
/-! ### the law's own look at what stands beside -/
theorem slA_go {H : Hp} {Q : VK} {a : Addr} {xs : List V} {lo hi : Option Int} (e : H a = some (.tup xs)) (q : ∀ H' p, Same H H' → H' p = some (.tup (cutV xs lo hi)) → Q (.ref p) H') : rSlA K (.ref a) lo hi H Q := by
  refine ⟨a, xs, rfl, .of e, fun z => ?_, fun z p np => ?_⟩
  · refine q H a (Same.refl _) ?_
    have : cutV xs lo hi = xs := by
      unfold cutV
      rw [z.1, z.2, List.drop_zero, Nat.sub_zero, List.take_length]
    rw [this]
    exact e
  · obtain ⟨s, ep⟩ := nxo (o := .tup (cutV xs lo hi)) np
    exact q _ p s ep
theorem catA_go {H : Hp} {Q : VK} {a b : Addr} {xs ys : List V} (ea : H a = some (.tup xs)) (eb : H b = some (.tup ys)) (hl : xs.length + ys.length ≤ sizeLine) (q : ∀ H' p, Same H H' → H' p = some (.tup (xs ++ ys)) → Q (.ref p) H') : rCatA K (.ref a) (.ref b) H Q := by
  refine ⟨a, b, xs, ys, rfl, rfl, .of ea, .of eb, hl, fun z => ?_, fun _ z => ?_, fun _ _ p np => ?_⟩
  · refine q H b (Same.refl _) ?_
    rw [z, List.nil_append]
    exact eb
  · refine q H a (Same.refl _) ?_
    rw [z, List.append_nil]
    exact ea
  · obtain ⟨s, ep⟩ := nxo (o := .tup (xs ++ ys)) np
    exact q _ p s ep
theorem cut_from (xs : List V) (z : Nat) : cutV xs (some (z : Int)) none = xs.drop z := by
  unfold cutV
  rw [HT.sIx_nat]
  show (xs.drop (min z xs.length)).take (xs.length - min z xs.length) = xs.drop z
  by_cases h : z ≤ xs.length
  · rw [Nat.min_eq_left h, List.take_of_length_le (by rw [List.length_drop]; omega)]
  · rw [Nat.min_eq_right (by omega), List.drop_length, List.drop_of_length_le (by omega)]
    exact List.take_nil
theorem out_one {l : List Str} {z : Str} {k : Nat} (nd : l.Nodup) (e : l[k]? = some z) : l.take k ++ l.drop (k + 1) = l.filter fun y => !decide (y = z) := by
  obtain ⟨lt, ex⟩ := List.getElem?_eq_some_iff.mp e
  have sp : l = l.take k ++ z :: l.drop (k + 1) := by
    rw [← ex, List.getElem_cons_drop, List.take_append_drop]
  have nd2 := nd
  rw [sp] at nd2
  obtain ⟨n1, n2, n3⟩ := List.nodup_append.mp nd2
  obtain ⟨n4, n5⟩ := List.nodup_cons.mp n2
  conv => rhs; rw [sp]
  rw [List.filter_append, List.filter_cons, if_neg (by simp)]
  congr 1
  · refine (List.filter_eq_self.mpr fun y hy => ?_).symm
    have : y ≠ z := fun h => n3 y hy z List.mem_cons_self h
    simp [this]
  · refine (List.filter_eq_self.mpr fun y hy => ?_).symm
    have : y ≠ z := fun h => n4 (h ▸ hy)
    simp [this]
theorem any_names {K : PySem.W.Frag} {H : Hp} {x : V} {d : PyData} (h : NV K H x d) (ss : List Sec) : ((ss.map fun s => PyData.str s.nm).any fun z => PyData.eqv z d) = (ss.find? (isN x)).isSome := by
  induction ss with
  | nil => rfl
  | cons s r ih =>
    rw [List.map_cons, List.any_cons, ih, isN_eqv h, List.find?_cons]
    cases isN x s <;> rfl
theorem secF_str {ss : List Sec} {x : V} {s : Sec} (h : secF ss x = some s) : x = .str s.nm ∧ s ∈ ss := by
  match x, h with
  | .str z, h =>
    have h' : ss.find? (fun s => decide (s.nm = z)) = some s := h
    have e := of_decide_eq_true (List.find?_some (p := fun s : Sec => decide (s.nm = z)) h')
    exact ⟨by rw [e], List.mem_of_find?_eq_some h'⟩
theorem kn_lbeside (D : Df K mg "_law_beside" s_l_beside) (B : BG mg) : Kn P w K mg base "_law_beside" 1 p_l_beside (spDue K 1) := by
  refine D.kn sc_l_beside (fun _ _ _ _ _ _ us hl => match us, hl with | [_, _], _ => rfl) (fun vs H Q E h => ?_) (fun f cdv A outer s H vs Q E gd hr h => ?_)
  · obtain ⟨v, x, b, d, rfl, _⟩ := h
    rfl
  · obtain ⟨v, x, b, d, rfl, dv, bok, ns, q⟩ := h
    have hu65 : (A.deeper (envOfC "_law_beside" (defScope s_l_beside) s.heap.objs.size f cdv)).units + 65 < cLine := by
      have := hr.un
      omega
    refine ⟨_, PSs.nox (pss_cons (ps_if (pt_cmpR (op_notInD hu65) (pv 1) (pe_lc (own := [("_law_section_here", 4)]) (g := gName 4) (tt := tYes) (te := tOp (rIxT K) (tVar 4) (tC (.int 0))) rfl sc_l_beside.nd (pi_tup (pe_ix ix_tup (pv 0) pe_int (fun _ _ => rfl))) (blkOk_by (N := n_l_beside) (sc := defScope s_l_beside) (by decide +kernel)) (fun _ _ _ _ _ => (pg_name (i := 4) sc_l_beside.nd rfl (.inl rfl))) (fun _ _ _ _ _ => pts_nil) (fun _ _ _ _ _ => (pe_ix ix_tup (pv 4) pe_int (fun _ _ => rfl)))) rfl) (pss_one (ps_ret (pe_op op_add_str pe_str (pe_callB (call_reprA gd hr) rfl B.repr boot_repr (pa_cons (pv 1) pa_nil))))) pss_nil) (pss_cons (ps_for PassesOwn.never rfl (pi_tup (pe_ix ix_tup (pv 0) pe_int (fun _ _ => rfl))) (pg_name (i := 2) sc_l_beside.nd rfl (.inr rfl)) (pss_cons (ps_setLc (i := 3) (own := [("_law_k", 5)]) (g := gName 5) (tt := tTest (tOp (rEqD K) (tOp (rIxT K) (tVar 2) (tVar 5)) (tVar 1))) (te := tVar 5) rfl sc_l_beside.nd rfl rfl (sw_true rfl rfl rfl (by decide +kernel)) (pi_range1 rfl B.range (pa_cons (pe_callB call_len_seq rfl B.len PySem.boot_len (pa_cons (pv 2) pa_nil)) pa_nil)) (blkOk_by (N := n_l_beside) (sc := defScope s_l_beside) (by decide +kernel)) (fun _ _ _ _ _ => (pg_name (i := 5) sc_l_beside.nd rfl (.inl rfl))) (fun _ _ _ _ _ => (pts_one (pt_cmpR (op_eqD hr.units) (pe_ix ix_tup (pv 2) (pv 5) (fun _ _ => rfl)) (pv 1) (nomark _)))) (fun _ _ _ _ _ => (pv 5))) (pss_one (ps_if (pt_cmpR (op_neD hr.units) (pv 3) (pe_lst pa_nil) (nomark _)) (pss_one (ps_ret (pe_op op_catA (pe_slice sl_tupA (pv 2) po_none (po_some (pe_ix ix_list (pv 3) pe_int (fun _ _ => rfl)))) (pe_slice sl_tupA (pv 2) (po_some (pe_op op_add (pe_ix ix_list (pv 3) pe_int (fun _ _ => rfl)) pe_int)) po_none)))) pss_nil)))) (pss_one (ps_ret (pe_tup pa_nil))))), ?_⟩
    dsimp only [cxOf]
    obtain ⟨a, s0, h0, e0, g0, us, ue, ug, rfl, ea, es, ts, _, ee, te, _, _⟩ := bookD_inv dv
    have pl := bok.pl
    have ul : ue.length = b.bes.length := by rw [te.len, List.length_map]
    refine ifS_go (test_go (op_go (var_go rfl (lc_in ⟨_, rfl, a, _, 0, _, rfl, rfl, .of ea, atI_nat (j := 0) rfl, s0, rfl, ⟨_, .of es⟩, ?_⟩))))
    refine lc_tup (K := K) (xs := b.secs) (f := secD) (p := fun _ => true) (gd := fun s => .str s.nm) es ts (by have := bok.few; omega) (fun s x2 H1 N1 N0 hs sm dx n1 n0 => ⟨wiped, ?_⟩) fun H1 D1 s1 nD1 l1 => ?_
    · obtain ⟨pa, pm, pt, ut, rfl, ep, _⟩ := secD_inv dx
      dsimp only [tYes]
      rw [if_pos rfl]
      exact ⟨_, gOwn (Nat.lt_of_sub_eq_succ rfl), pa, _, 0, _, rfl, rfl, .of ep, atI_nat (j := 0) rfl, n1 _ _ (Same.refl _) rfl (.str _)⟩
    rw [List.filter_eq_self.mpr (fun _ _ => rfl)] at l1
    have ly : Ly 1 (.list (b.secs.map fun s => .str s.nm)) := .lst (.map _ fun s hs => .str (pl s hs).nm.sh)
    refine ⟨d, _, (ns.nv.same s1).dp, l1.dp, ns.nv.ly.shp (by decide), ly.shp (by decide), _, rfl, ?_⟩
    rw [any_names ns.nv, ← secF_find]
    have q2 := q
    unfold toldD at q2
    cases hf : secF b.secs x with
    | none =>
      rw [hf] at q2
      exact ⟨_, rfl, x, d, 20, 3, rfl, (ns.nv.same s1).dp, ns.nv.sm, by decide, by decide, _, _, rfl, rfl, noT_room ns.rp, q2 _ _ s1 (.str _)⟩
    | some sk =>
      rw [hf] at q2
      obtain ⟨rfl, skm⟩ := secF_str hf
      have q3 : ∀ (H' : Hp) (v' : V), Same H H' → Dt H' v' (beO b sk.nm) → Q v' H' := q2
      have e3 := ns.nv.str
      subst e3
      rw [if_neg (show ¬(!(some sk).isSome) = true from Bool.false_ne_true)]
      dsimp only [tNext]
      refine ⟨_, rfl, a, _, 2, _, rfl, rfl, .of (s1 _ _ ea), atI_nat (j := 2) rfl, e0, rfl, ⟨_, .of (s1 _ _ ee)⟩, ?_⟩
      refine for_it (walk_tup (K := K) (a := e0) (xs := ue)) (fun k σ H' => ∃ (y2 y3 : Option V), σ = [some (.ref a), some (.str sk.nm), y2, y3, none, none] ∧ Same H H' ∧ ∀ l ∈ b.bes.take k, decide (sk.nm ∈ l) = false) ⟨none, none, rfl, s1, fun _ h => (by simp at h)⟩ (fun i σ H' _ pv => ?_) (fun k x2 σ Ha Hb hk pv y => ?_) (fun σ Ha pv => ?_)
      · obtain ⟨_, _, _, sm, _⟩ := pv
        exact .of (sm _ _ ee)
      · obtain ⟨y2, y3, rfl, sm, no⟩ := pv
        obtain ⟨rfl, gx⟩ := y
        obtain ⟨dd, gd', dx2⟩ := (te.tk (Same.tk sm)).getV k x2 gx
        rw [List.getElem?_map] at gd'
        obtain ⟨l, gl, rfl⟩ := Option.map_eq_some_iff.mp gd'
        have lm : l ∈ b.bes := List.mem_of_getElem? gl
        obtain ⟨pb, ul', rfl, epb, tl'⟩ := dx2.tup'
        have e2 := tl'.strs
        subst e2
        have ll := (bok.bes.some l lm).2
        refine gName_go ?_
        try dsimp only
        refine asg_go (lc_in ⟨_, rfl, pb, _, rfl, .inr (.of epb), ((l.length : Nat) : Int), (by rw [List.length_map]), by omega, by omega, ?_⟩)
        rw [Int.toNat_natCast]
        refine lc_rng (p := fun k => decide (l.getD k "" = sk.nm)) (gd := fun k => .int (0 + (k : Nat))) (by omega) (fun j x H2 N1 N0 hj sm2 dx2 n1 n0 => ⟨wiped, ?_⟩) fun H2 D2 s2 nD2 l2 => ?_
        · have hj' : j < l.length := List.mem_range.mp hj
          have e := dx2.int'
          subst e
          have gj : l[j]? = some (l.getD j "") := by
            rw [List.getD_eq_getElem?_getD, List.getElem?_eq_getElem hj']
            rfl
          have jsub := bok.bes.sub l lm _ (List.mem_of_getElem? gj)
          obtain ⟨sj, hsj, ej⟩ := List.mem_map.mp jsub
          refine ⟨_, gOth (σ := [some (.ref a), some (.str sk.nm), some (.ref pb), y3, none, none]) rfl (by decide), _, gOwn (Nat.lt_of_sub_eq_succ rfl), pb, _, _, _, rfl, rfl, .of (sm2 _ _ epb), at_get (k := j) (by omega) hj', _, gOth (σ := [some (.ref a), some (.str sk.nm), some (.ref pb), y3, none, none]) rfl (by decide), .str _, .str _, .str _, .str _, (Ly.str (k := 8) (by rw [← ej]; exact (pl sj hsj).nm.sh)).shp (by decide), (Ly.str (pl sk skm).nm.sh).shp (by decide), _, rfl, ?_⟩
          rw [eqv_str]
          refine ite2 (fun c => ?_) (fun c => ?_)
          · exact ⟨_, gOwn (Nat.lt_of_sub_eq_succ rfl), n1 _ _ (Same.refl _) c (.int _)⟩
          · exact n0 _ (Same.refl _) (Bool.eq_false_iff.mpr c)
        · refine gName_go ?_
          try dsimp only
          obtain ⟨v2, e2, t2⟩ := l2
          refine ⟨_, rfl, Nat.zero_le _, fun e ne => ?_⟩
          obtain ⟨se, ee'⟩ := nxo (o := .lst []) ne
          have ly : Ly 1 (.list (((List.range l.length).filter fun k => decide (l.getD k "" = sk.nm)).map fun k => .int (0 + (k : Nat)))) := .lst (.map _ fun k _ => .int _)
          refine ⟨_, .list [], .lst (.of (se _ _ e2)) (t2.tk (Same.tk se)).dp, .lst (.of ee') .nil, ly.shp (by decide), rfl, _, rfl, ?_⟩
          rw [eqv_nilL]
          have hd : ((List.range l.length).filter fun k => decide (l.getD k "" = sk.nm)).head? = l.findIdx? fun y => decide (y = sk.nm) := by
            rw [List.head?_filter]
            exact range_find (P := fun y => decide (y = sk.nm)) "" l
          have s2e := s2.trans se
          have sAll := sm.trans s2e
          generalize ((List.range l.length).filter fun k => decide (l.getD k "" = sk.nm)) = fl at t2 hd ly ⊢
          match fl, t2, hd with
          | [], t2, hd =>
            refine ⟨_, _, rfl, sAll, fun z hz => ?_⟩
            rw [List.take_add_one, gl] at hz
            rcases List.mem_append.mp hz with h | h
            · exact no z h
            · rw [List.mem_singleton.mp h]
              refine decide_eq_false fun hm => ?_
              have := List.findIdx?_eq_none_iff.mp hd.symm sk.nm hm
              simp at this
          | j :: r, t2, hd =>
            obtain ⟨v1, r1, rfl, d1, t1⟩ := t2.cons'
            have e1 := d1.int'
            subst e1
            have hd' : l.findIdx? (fun y => decide (y = sk.nm)) = some j := hd.symm
            obtain ⟨lt, pj, _⟩ := List.findIdx?_eq_some_iff_getElem.mp hd'
            have gj : l[j]? = some sk.nm := by
              rw [List.getElem?_eq_getElem lt, of_decide_eq_true pj]
            have epb2 := s2e _ _ epb
            refine ⟨_, rfl, _, rfl, D2, _, 0, _, rfl, rfl, .of (se _ _ e2), atI_nat (j := 0) rfl, _, rfl, slA_go (K := K) epb2 fun H3 p3 s3 e3 => ?_⟩
            refine ⟨_, rfl, _, rfl, D2, _, 0, _, rfl, rfl, .of (s3 _ _ (se _ _ e2)), atI_nat (j := 0) rfl, _, _, rfl, rfl, _, rfl, ?_⟩
            dsimp only [tNoPart]
            refine slA_go (K := K) (s3 _ _ epb2) fun H4 p4 s4 e4 => ?_
            have c1 : cutV (l.map V.str) none (some (0 + (j : Int))) = (l.take j).map V.str := by
              have : (0 + (j : Int)) = ((j : Nat) : Int) := by omega
              rw [this, cut_to, List.map_take]
            have c2 : cutV (l.map V.str) (some (0 + (j : Int) + 1)) none = (l.drop (j + 1)).map V.str := by
              have : (0 + (j : Int) + 1) = ((j + 1 : Nat) : Int) := by omega
              rw [this, cut_from, List.map_drop]
            rw [c1] at e3
            rw [c2] at e4
            refine catA_go (K := K) (s4 _ _ e3) e4 ?_ fun H5 p5 s5 e5 => ?_
            · rw [List.length_map, List.length_map, List.length_take, List.length_drop]
              exact Nat.le_of_lt (len20k (by omega))
            · refine q3 _ _ (sAll.trans (s3.trans (s4.trans s5))) ?_
              unfold beO
              have fnd := find_at (p := fun l : List Str => decide (sk.nm ∈ l)) no gl (decide_eq_true (List.mem_of_getElem? gj))
              rw [fnd]
              have ndl : l.Nodup := bok.bes.nd.sublist (List.sublist_flatten_of_mem lm)
              have oo := out_one ndl gj
              show Dt H5 _ (.tuple ((l.filter fun y => !decide (y = sk.nm)).map .str))
              rw [← oo]
              rw [← List.map_append] at e5
              exact .tup e5 (dtAll_strs _)
      · obtain ⟨y2, y3, rfl, sm, no⟩ := pv
        rw [ul, List.take_length] at no
        refine ⟨Nat.zero_le _, fun p np => ?_⟩
        obtain ⟨s3, e3⟩ := nxo (o := .tup []) np
        refine q3 _ _ (sm.trans s3) ?_
        unfold beO
        rw [List.find?_eq_none.mpr fun y hy => by rw [no y hy]; exact Bool.false_ne_true]
        exact .tup e3 .nil
end
end Pb

namespace Pb
open PySem PySem.Spec PyProof.Rows L2 TL
abbrev s_l_by_names : Stmt := top 36
abbrev n_l_by_names : List Str := ["_law_book_here", "_law_names_here", "_law_name"]
abbrev p_l_by_names : List Str := ["_law_book_here", "_law_names_here"]
theorem sc_l_by_names : FnScope n_l_by_names p_l_by_names (defScope s_l_by_names) := ⟨rfl, rfl, rfl, by decide +kernel, rfl, by decide +kernel, by decide +kernel⟩
abbrev s_l_by_marks : Stmt := top 37
abbrev n_l_by_marks : List Str := ["_law_book_here", "_law_marks_here", "_law_mark", "_law_due", "_law_found"]
abbrev p_l_by_marks : List Str := ["_law_book_here", "_law_marks_here"]
theorem sc_l_by_marks : FnScope n_l_by_marks p_l_by_marks (defScope s_l_by_marks) := ⟨rfl, rfl, rfl, by decide +kernel, rfl, by decide +kernel, by decide +kernel⟩
theorem tri_sm {t : Tri} (h : TriOk t) : Sm 3 1 (triD t) := by
  obtain ⟨a, b, c, d, e, f⟩ := h
  exact .tup (.cons (.int (by omega)) (.cons (.int (by omega)) (.cons (.int (by omega)) .nil)))
theorem sec_sm {s : Sec} (h : SecPl s) : Sm 120 3 (secD s) := by
  have a : SmA ((8 + 1) * 8) 0 (s.ms.map .str) := sm_map _ (fun m hm => sm_sh (h.ms m hm).sh) h.few
  have b : SmA ((3 + 1) * 8) 1 (s.ts.map triD) := sm_map _ (fun t ht => tri_sm (h.ok t ht)) (by have := h.len; have := h.few; omega)
  exact (Sm.tup (.cons (sm_sh h.nm.sh) (.cons (.tup a) (.cons (.tup b) .nil)))).le (by decide) (by decide)
theorem names_sm {xs : List Str} {m : Nat} (h : ∀ x ∈ xs, Nm x) (hl : xs.length ≤ m) : Sm ((8 + 1) * m) 1 (.tuple (xs.map .str)) := .tup (sm_map _ (fun x hx => sm_sh (h x hx).sh) hl)
theorem BkOk.besN {b : Bk} (bok : BkOk b) : ∀ l ∈ b.bes, ∀ y ∈ l, Nm y := fun l hl y hy => by
  obtain ⟨s, hs, e⟩ := List.mem_map.mp (bok.bes.sub l hl y hy)
  rw [← e]
  exact bok.nms s hs
theorem beO_sm {b : Bk} (bok : BkOk b) (nm : Str) : Sm 120 3 (beO b nm) := by
  unfold beO
  cases h : b.bes.find? fun l => decide (nm ∈ l) with
  | none => exact (Sm.tup .nil).le (by decide) (by decide)
  | some l =>
    have lm := List.mem_of_find?_eq_some h
    exact (names_sm (xs := l.filter fun y => !decide (y = nm)) (m := 4) (fun x hx => bok.besN l lm x (List.mem_filter.mp hx).1) (Nat.le_trans (List.length_filter_le _ _) (bok.bes.some l lm).2)).le (by decide) (by decide)
theorem told_sm {b : Bk} (bok : BkOk b) {K : PySem.W.Frag} {H : Hp} {x : V} {d : PyData} (ns : NS K H x d) (way : Int) : Sm 120 3 (toldD b x d way) := by
  unfold toldD
  cases h : secF b.secs x with
  | none => exact (sm_sh (noT_sh ns.rp)).le (by decide) (by decide)
  | some s =>
    show Sm 120 3 (if way = 0 then secD s else beO b s.nm)
    split
    · exact sec_sm (bok.pl s (secF_str h).2)
    · exact beO_sm bok _
theorem bdgO_sm {b : Bk} (bok : BkOk b) (nm : Str) : Sm 20 3 (bdgO b nm) := by
  unfold bdgO
  cases h : b.bdg.find? fun g => decide (g.1 = nm) with
  | none => exact Sm.non.le (by decide) (by decide)
  | some g =>
    have o := bok.bok g (List.mem_of_find?_eq_some h)
    have lo := o.lo
    have hi := o.hi
    exact (Sm.tup (.cons (sm_sh (sorts_sh o.sort)) (.cons (.int (by omega)) .nil))).le (by decide) (by decide)
theorem nums_mem {mk : Str} {ss : List Sec} {t : Str × Nat} (h : t ∈ nums mk ss) : ∃ s ∈ ss, t.1 = s.nm ∧ t.2 < s.ms.length := by
  obtain ⟨l, hl, ht⟩ := List.mem_flatten.mp h
  obtain ⟨s, hs, rfl⟩ := List.mem_map.mp hl
  obtain ⟨k, hk, rfl⟩ := List.mem_map.mp ht
  exact ⟨s, hs, rfl, List.mem_range.mp (List.mem_filter.mp hk).1⟩
theorem nk_sm {t : Str × Nat} (h : Sh 8 t.1) (h2 : t.2 ≤ 8) : Sm 10 1 (nkD t) := (Sm.tup (.cons (sm_sh h) (.cons (.int (by omega)) .nil))).le (by decide) (by decide)
theorem nums_sm {b : Bk} (bok : BkOk b) (mk : Str) : Sm ((10 + 1) * 64) 2 (.list ((nums mk b.secs).map nkD)) := by
  refine .lst (sm_map _ (fun t ht => ?_) ?_)
  · obtain ⟨s, hs, e, lt⟩ := nums_mem ht
    have pl := bok.pl s hs
    refine nk_sm ?_ (by have := pl.few; omega)
    rw [e]
    exact pl.nm.sh
  · have := nums_len mk b.secs (c := 8) fun s hs => (bok.pl s hs).few
    have := bok.few
    omega
def spByNames (K : PySem.W.Frag) : Sp := fun vs H Q _ => ∃ (v : V) (r : Addr) (b : Bk) (xs : List V), vs = [v, .ref r] ∧ Dt H v (bookD b) ∧ BkOk b ∧ H r = some (.lst xs) ∧ (∀ x ∈ xs, ∃ d, NS K H x d) ∧ ∀ H', Same H H' → Q (.bl true) H'
def spByMarks : Sp := fun vs H Q _ => ∃ (v : V) (r : Addr) (b : Bk) (ms : List Str), vs = [v, .ref r] ∧ Dt H v (bookD b) ∧ BkOk b ∧ H r = some (.lst (ms.map V.str)) ∧ ∀ H', Same H H' → Q (.bl true) H'
section
variable {P : Program} {w : World} {K : PySem.W.Frag} {mg : Str → Option Value} {base : Heap}
theorem kn_byNames (D : Df K mg "_law_by_names" s_l_by_names) (B : BG mg) (k_l_told : Kn P w K mg base "_law_told" 5 p_l_told (spTold K)) (k_l_section_due : Kn P w K mg base "_law_section_due" 1 p_l_section_due (spDue K 0)) (k_l_beside : Kn P w K mg base "_law_beside" 1 p_l_beside (spDue K 1)) (k_badge_of : Kn P w K mg base "badge_of" 1 p_badge_of spBadge) (k_l_badge : Kn P w K mg base "_law_badge" 1 p_l_badge spBadge) : Kn P w K mg base "_law_by_names" 6 p_l_by_names (spByNames K) := by
  refine D.kn sc_l_by_names (fun _ _ _ _ _ _ us hl => match us, hl with | [_, _], _ => rfl) (fun vs H Q E h => ?_) (fun f cdv A outer s H vs Q E gd hr h => ?_)
  · obtain ⟨v, r, b, xs, rfl, _⟩ := h
    rfl
  · obtain ⟨v, r, b, xs, rfl, dv, bok, er, nss, q⟩ := h
    refine ⟨_, PSs.nox (pss_cons (ps_for PassesOwn.never rfl (pi_list (pv 1)) (pg_name (i := 2) sc_l_by_names.nd rfl (.inl rfl)) (pss_cons (ps_if (pt_cmpR op_ne (pe_callB (call_reprA gd hr) rfl B.repr boot_repr (pa_cons (pe_kn k_l_told gd (hr.mono (by decide)) rfl (pa_cons pe_int (pa_cons (pv 0) (pa_cons (pv 2) pa_nil)))) pa_nil)) (pe_callB (call_reprA gd hr) rfl B.repr boot_repr (pa_cons (pe_kn k_l_section_due gd (hr.mono (by decide)) rfl (pa_cons (pv 0) (pa_cons (pv 2) pa_nil))) pa_nil)) (nomark _)) (pss_one (ps_ret pe_bl)) pss_nil) (pss_cons (ps_if (pt_cmpR op_ne (pe_callB (call_reprA gd hr) rfl B.repr boot_repr (pa_cons (pe_kn k_l_told gd (hr.mono (by decide)) rfl (pa_cons pe_int (pa_cons (pv 0) (pa_cons (pv 2) pa_nil)))) pa_nil)) (pe_callB (call_reprA gd hr) rfl B.repr boot_repr (pa_cons (pe_kn k_l_beside gd (hr.mono (by decide)) rfl (pa_cons (pv 0) (pa_cons (pv 2) pa_nil))) pa_nil)) (nomark _)) (pss_one (ps_ret pe_bl)) pss_nil) (pss_one (ps_if (PW.pt (pw_and (pt_val (pe_callB call_isi rfl B.isinstance boot_isinstance (pa_cons (pv 2) (pa_cons (pe_bltn (v := .ty "str") rfl B.str PyProof.Rows.boot_str rfl) pa_nil)))) (pw_and1 (pt_cmpR op_ne (pe_callB (call_reprA gd hr) rfl B.repr boot_repr (pa_cons (pe_kn k_badge_of gd (hr.mono (by decide)) rfl (pa_cons (pv 0) (pa_cons (pv 2) pa_nil))) pa_nil)) (pe_callB (call_reprA gd hr) rfl B.repr boot_repr (pa_cons (pe_kn k_l_badge gd (hr.mono (by decide)) rfl (pa_cons (pv 0) (pa_cons (pv 2) pa_nil))) pa_nil)) (nomark _))))) (pss_one (ps_ret pe_bl)) pss_nil))))) (pss_one (ps_ret pe_bl))), ?_⟩
    dsimp only [cxOf]
    refine ⟨_, rfl, r, rfl, ⟨_, .of er⟩, ?_⟩
    refine for_it (walk_list (K := K) (a := r) (xs := xs)) (fun k σ H' => ∃ (y2 : Option V), σ = [some v, some (.ref r), y2] ∧ Same H H') ⟨none, rfl, Same.refl _⟩ (fun i σ H' _ pv => ?_) (fun k x σ Ha Hb hk pv y => ?_) (fun σ Ha pv => ?_)
    · obtain ⟨_, _, sm⟩ := pv
      exact .of (sm _ _ er)
    · obtain ⟨y2, rfl, sm⟩ := pv
      obtain ⟨rfl, gx⟩ := y
      obtain ⟨d, ns0⟩ := nss x (List.mem_of_getElem? gx)
      refine gName_go ?_
      try dsimp only
      have ns1 := ns0.same sm
      refine ifS_go (test_go (op_go (cB_go (cons_go (call_go ⟨_, rfl, _, rfl, 0, v, x, b, d, rfl, dv.tk (Same.tk sm), bok, ns1, fun H1 v1 s1 t1 => ⟨v1, _, 120, 3, rfl, t1.dp, told_sm bok ns1 0, by decide, by decide, ?_⟩⟩)))))
      have sm1 := sm.trans s1
      have ns2 := ns0.same sm1
      refine cB_go (cons_go (call_go ⟨_, rfl, _, rfl, v, x, b, d, rfl, dv.tk (Same.tk sm1), bok, ns2, fun H2 v2 s2 t2 => ⟨v2, _, 120, 3, rfl, t2.dp, told_sm bok ns2 0, by decide, by decide, ?_⟩⟩))
      refine ⟨rfl, _, rfl, ?_⟩
      rw [decide_eq_true rfl]
      refine iteF ?_
      dsimp only [tNext]
      have sm2 := sm1.trans s2
      have ns3 := ns0.same sm2
      refine ifS_go (test_go (op_go (cB_go (cons_go (call_go ⟨_, rfl, _, rfl, 1, v, x, b, d, rfl, dv.tk (Same.tk sm2), bok, ns3, fun H3 v3 s3 t3 => ⟨v3, _, 120, 3, rfl, t3.dp, told_sm bok ns3 1, by decide, by decide, ?_⟩⟩)))))
      have sm3 := sm2.trans s3
      have ns4 := ns0.same sm3
      refine cB_go (cons_go (call_go ⟨_, rfl, _, rfl, v, x, b, d, rfl, dv.tk (Same.tk sm3), bok, ns4, fun H4 v4 s4 t4 => ⟨v4, _, 120, 3, rfl, t4.dp, told_sm bok ns4 1, by decide, by decide, ?_⟩⟩))
      refine ⟨rfl, _, rfl, ?_⟩
      rw [decide_eq_true rfl]
      refine iteF ?_
      dsimp only [tNext]
      have sm4 := sm3.trans s4
      have ns5 := ns0.same sm4
      obtain ⟨T, hk⟩ := ns5.nv.kd
      refine ifS_go ⟨_, rfl, x, _, _, _, _, rfl, .ty "str", hk.ty, kit_ty hk.isS, _, rfl, ?_⟩
      have fin : ∀ H', Same H4 H' → ∃ (y2 : Option V), [some v, some (.ref r), some x] = [some v, some (.ref r), y2] ∧ Same H H' := fun H' s' => ⟨_, rfl, sm4.trans s'⟩
      cases hk with
      | str z =>
        refine iteT ?_
        refine test_go (op_go (cB_go (cons_go (call_go ⟨_, rfl, _, rfl, v, b, z, rfl, dv.tk (Same.tk sm4), bok.bfew, bok.bok, fun H5 v5 s5 t5 => ⟨v5, _, 20, 3, rfl, t5.dp, bdgO_sm bok z, by decide, by decide, ?_⟩⟩))))
        refine cB_go (cons_go (call_go ⟨_, rfl, _, rfl, v, b, z, rfl, dv.tk (Same.tk (sm4.trans s5)), bok.bfew, bok.bok, fun H6 v6 s6 t6 => ⟨v6, _, 20, 3, rfl, t6.dp, bdgO_sm bok z, by decide, by decide, ?_⟩⟩))
        refine ⟨rfl, _, rfl, ?_⟩
        rw [decide_eq_true rfl]
        exact iteF (fin _ (s5.trans s6))
      | _ => exact iteF (iteF (fin _ (Same.refl _)))
    · obtain ⟨y2, rfl, sm⟩ := pv
      exact q _ sm
theorem kn_byMarks (D : Df K mg "_law_by_marks" s_l_by_marks) (B : BG mg) (k_numbers_of : Kn P w K mg base "numbers_of" 1 p_numbers_of spNumbers) (k_l_numbers : Kn P w K mg base "_law_numbers" 1 p_l_numbers spNumbers) : Kn P w K mg base "_law_by_marks" 2 p_l_by_marks spByMarks := by
  refine D.kn sc_l_by_marks (fun _ _ _ _ _ _ us hl => match us, hl with | [_, _], _ => rfl) (fun vs H Q E h => ?_) (fun f cdv A outer s H vs Q E gd hr h => ?_)
  · obtain ⟨v, r, b, xs, rfl, _⟩ := h
    rfl
  · obtain ⟨v, r, b, xs, rfl, dv, bok, er, q⟩ := h
    refine ⟨_, PSs.nox (pss_cons (ps_for PassesOwn.never rfl (pi_list (pv 1)) (pg_name (i := 2) sc_l_by_marks.nd rfl (.inl rfl)) (pss_cons (ps_set (i := 3) sc_l_by_marks.nd rfl (.inl rfl) (pe_callB (call_reprA gd hr) rfl B.repr boot_repr (pa_cons (pe_kn k_l_numbers gd (hr.mono (by decide)) rfl (pa_cons (pv 0) (pa_cons (pv 2) pa_nil))) pa_nil))) (pss_cons (ps_set (i := 4) sc_l_by_marks.nd rfl (.inl rfl) (pe_kn k_numbers_of gd (hr.mono (by decide)) rfl (pa_cons (pv 0) (pa_cons (pv 2) pa_nil)))) (pss_cons (ps_if (pt_cmpR op_ne (pe_callB (call_reprA gd hr) rfl B.repr boot_repr (pa_cons (pv 4) pa_nil)) (pv 3) (nomark _)) (pss_one (ps_ret pe_bl)) pss_nil) (pss_cons (ps_expr (pe_bm PySem.F.plainAttrs_list PySem.F.slot_list_append PySem.F.type_list_append mt_append (pv 4) (pa_cons pe_str pa_nil))) (pss_one (ps_if (pt_cmpR op_ne (pe_callB (call_reprA gd hr) rfl B.repr boot_repr (pa_cons (pe_kn k_numbers_of gd (hr.mono (by decide)) rfl (pa_cons (pv 0) (pa_cons (pv 2) pa_nil))) pa_nil)) (pv 3) (nomark _)) (pss_one (ps_ret pe_bl)) pss_nil))))))) (pss_one (ps_ret pe_bl))), ?_⟩
    dsimp only [cxOf]
    have few := bok.few
    have mfew : ∀ s ∈ b.secs, s.ms.length ≤ 8 := fun s hs => (bok.pl s hs).few
    refine ⟨_, rfl, r, rfl, ⟨_, .of er⟩, ?_⟩
    refine for_it (walk_list (K := K) (a := r) (xs := xs.map V.str)) (fun k σ H' => ∃ (y2 y3 y4 : Option V), σ = [some v, some (.ref r), y2, y3, y4] ∧ Same H H') ⟨none, none, none, rfl, Same.refl _⟩ (fun i σ H' _ pv => ?_) (fun k x σ Ha Hb hk pv y => ?_) (fun σ Ha pv => ?_)
    · obtain ⟨_, _, _, _, sm⟩ := pv
      exact .of (sm _ _ er)
    · obtain ⟨y2, y3, y4, rfl, sm⟩ := pv
      obtain ⟨rfl, gx⟩ := y
      rw [List.getElem?_map] at gx
      obtain ⟨z, gz, rfl⟩ := Option.map_eq_some_iff.mp gx
      refine gName_go ?_
      try dsimp only
      refine asgE_go (cB_go (cons_go (call_go ⟨_, rfl, _, rfl, v, b, z, rfl, dv.tk (Same.tk sm), few, mfew, fun H1 r1 s1 n1 l1 => ⟨_, _, _, 2, rfl, l1.dp, nums_sm bok z, by decide, by decide, ?_⟩⟩)))
      refine gName_go ?_
      try dsimp only
      have sm1 := sm.trans s1
      refine asgE_go (call_go ⟨_, rfl, _, rfl, v, b, z, rfl, dv.tk (Same.tk sm1), few, mfew, fun H2 r2 s2 n2 l2 => ?_⟩)
      refine gName_go ?_
      try dsimp only
      refine ifS_go ⟨_, rfl, _, _, _, 2, rfl, l2.dp, nums_sm bok z, by decide, by decide, _, rfl, rfl, _, rfl, ?_⟩
      rw [decide_eq_true rfl]
      refine iteF ?_
      dsimp only [tNext]
      have n2' : H r2 = none := same_none sm1 n2
      have sm2 := sm1.trans s2
      obtain ⟨vs2, e2, t2⟩ := l2
      have vl : vs2.length = (nums z b.secs).length := by rw [t2.len, List.length_map]
      have nl := nums_len z b.secs (c := 8) mfew
      refine ⟨_, rfl, .inl ⟨rfl, _, .of e2⟩, r2, _, _, rfl, rfl, e2, len20k (by omega), ?_⟩
      have sm3 : Same H (upd H2 r2 (.lst (vs2 ++ [.str "more"]))) := same_mut sm2 n2'
      generalize upd H2 r2 (.lst (vs2 ++ [.str "more"])) = H3 at sm3 ⊢
      try dsimp only [tNext]
      refine ifS_go (test_go (op_go (cB_go (cons_go (call_go ⟨_, rfl, _, rfl, v, b, z, rfl, dv.tk (Same.tk sm3), few, mfew, fun H4 r4 s4 n4 l4 => ⟨_, _, _, 2, rfl, l4.dp, nums_sm bok z, by decide, by decide, ?_⟩⟩)))))
      refine ⟨_, rfl, rfl, _, rfl, ?_⟩
      rw [decide_eq_true rfl]
      exact iteF ⟨_, _, _, rfl, sm3.trans s4⟩
    · obtain ⟨_, _, _, rfl, sm⟩ := pv
      exact q _ sm
end
end Pb

namespace Pb
open PySem PySem.Spec PyProof.Rows L2 TL
abbrev s_l_by_sections : Stmt := top 39
abbrev n_l_by_sections : List Str := ["_law_book_here", "_law_sections", "_law_others", "_law_section_here", "_law_due", "_law_turn", "_law_found", "_law_name", "_law_marks_here", "_law_one", "_law_piece"]
abbrev p_l_by_sections : List Str := ["_law_book_here", "_law_sections", "_law_others"]
theorem sc_l_by_sections : FnScope n_l_by_sections p_l_by_sections (defScope s_l_by_sections) := ⟨rfl, rfl, rfl, by decide +kernel, rfl, by decide +kernel, by decide +kernel⟩
def spBySections : Sp := fun vs H Q _ => ∃ (v : V) (r o : Addr) (b : Bk) (us : List V) (os : List Str), vs = [v, .ref r, .ref o] ∧ Dt H v (bookD b) ∧ BkOk b ∧ H r = some (.lst us) ∧ DtAll H us (b.secs.map secD) ∧ H o = some (.lst (os.map V.str)) ∧ 2 ≤ os.length ∧ (∀ x ∈ os, Nm x) ∧ ∀ H', Same H H' → Q (.bl true) H'
theorem at_end {α : Type} {xs : List α} (h : xs ≠ []) : atI xs (-1) = some (xs.getLast h) := by
  conv => lhs; rw [← List.dropLast_concat_getLast h]
  exact atI_last _ _
theorem at_end' {α : Type} {xs : List α} {x : α} (h : xs[xs.length - 1]? = some x) : atI xs (-1) = some x := by
  have ne : xs ≠ [] := by
    intro e
    subst e
    cases h
  rw [at_end ne, ← h, List.getLast_eq_getElem]
  exact (List.getElem?_eq_getElem _).symm
theorem at_lastS {ms : List Str} (h : 1 ≤ ms.length) : atI (ms.map V.str) (-1) = some (.str (ms.getD (ms.length - 1) "")) := by
  refine at_end' ?_
  rw [List.length_map, List.getElem?_map, List.getElem?_eq_getElem (by omega), List.getD_eq_getElem?_getD, List.getElem?_eq_getElem (by omega)]
  rfl
theorem getD_mem {ms : List Str} {k : Nat} (h : k < ms.length) : ms.getD k "" ∈ ms := by
  rw [List.getD_eq_getElem?_getD, List.getElem?_eq_getElem h]
  exact List.getElem_mem h
theorem pc_sm {p : Pc} (h : PcOk p) : Sm 27 1 (pcD p) := .tup (.cons (sm_sh h.1) (.cons (sm_sh h.2.1) (.cons (sm_sh h.2.2) .nil)))
theorem pcs_sm {s : Sec} (h : SecPl s) : Sm ((27 + 1) * 8) 2 (.list ((pcs s).map pcD)) := .lst (sm_map _ (fun p hp => pc_sm (pcs_ok h p hp)) (by rw [pcs_len]; have := h.few; omega))
theorem sum_in {f : Tri → Int} : ∀ (ts : List Tri), (∀ t ∈ ts, 0 ≤ f t ∧ f t ≤ 999) → 0 ≤ (ts.map f).sum ∧ (ts.map f).sum ≤ 999 * (ts.length : Nat)
  | [], _ => ⟨Int.le_refl _, Int.le_refl _⟩
  | t :: ts, h => by
    have a := h t List.mem_cons_self
    have b := sum_in ts fun t ht => h t (List.mem_cons_of_mem _ ht)
    rw [List.map_cons, List.sum_cons, List.length_cons]
    omega
theorem sums_sm {s : Sec} (h : SecPl s) : Sm 3 1 (triD (sums s.ts)) := by
  have l : s.ts.length ≤ 8 := by have := h.len; have := h.few; omega
  have a := sum_in (f := fun t => t.1) s.ts fun t ht => ⟨(h.ok t ht).1, (h.ok t ht).2.1⟩
  have b := sum_in (f := fun t => t.2.1) s.ts fun t ht => ⟨(h.ok t ht).2.2.1, (h.ok t ht).2.2.2.1⟩
  have c := sum_in (f := fun t => t.2.2) s.ts fun t ht => ⟨(h.ok t ht).2.2.2.2.1, (h.ok t ht).2.2.2.2.2⟩
  unfold sums triD
  dsimp only
  exact .tup (.cons (.int (by omega)) (.cons (.int (by omega)) (.cons (.int (by omega)) .nil)))
theorem stF_in {p : Pc} {t : Str × Nat} : ∀ {ss : List Sec}, (∀ s ∈ ss, SecPl s) → stF p ss = some t → Sh 8 t.1 ∧ t.2 ≤ 8
  | s :: r, h, e => by
    unfold stF at e
    have pl := h s List.mem_cons_self
    cases hf : (pcs s).findIdx? fun q => decide (q = p) with
    | none =>
      rw [hf] at e
      exact stF_in (fun s hs => h s (List.mem_cons_of_mem _ hs)) e
    | some k =>
      rw [hf] at e
      have e2 : (s.nm, k) = t := Option.some.inj e
      obtain ⟨lt, _⟩ := List.findIdx?_eq_some_iff_getElem.mp hf
      rw [pcs_len] at lt
      have := pl.few
      rw [← e2]
      exact ⟨pl.nm.sh, by show k ≤ 8; omega⟩
theorem optD_sm {p : Pc} {ss : List Sec} (h : ∀ s ∈ ss, SecPl s) : Sm 10 1 (optD (stF p ss)) := by
  cases e : stF p ss with
  | none => exact Sm.non.le (by decide) (by decide)
  | some t =>
    obtain ⟨a, b⟩ := stF_in h e
    exact nk_sm a b
section
variable {P : Program} {w : World} {K : PySem.W.Frag} {mg : Str → Option Value} {base : Heap}
theorem kn_bySections (D : Df K mg "_law_by_sections" s_l_by_sections) (B : BG mg) (k_pieces_of : Kn P w K mg base "pieces_of" 2 p_pieces_of spPieces) (k_l_pieces : Kn P w K mg base "_law_pieces" 1 p_l_pieces spPieces) (k_whole_of : Kn P w K mg base "whole_of" 1 p_whole_of spWhole) (k_l_whole : Kn P w K mg base "_law_whole" 1 p_l_whole spWhole) (k_stretch_at : Kn P w K mg base "stretch_at" 3 p_stretch_at spStretchAt) (k_l_where : Kn P w K mg base "_law_where" 2 p_l_where spStretchAt) : Kn P w K mg base "_law_by_sections" 4 p_l_by_sections spBySections := by
  refine D.kn sc_l_by_sections (fun _ _ _ _ _ _ us hl => match us, hl with | [_, _, _], _ => rfl) (fun vs H Q E h => ?_) (fun f cdv A outer s H vs Q E gd hr h => ?_)
  · obtain ⟨v, r, o, b, us, os, rfl, _⟩ := h
    rfl
  · obtain ⟨v, r, o, b, us, os, rfl, dv, bok, er, tr, eo, ol, on, q⟩ := h
    refine ⟨_, PSs.nox (pss_cons (ps_for PassesOwn.never rfl (pi_list (pv 1)) (pg_name (i := 3) sc_l_by_sections.nd rfl (.inl rfl)) (pss_cons (ps_set (i := 4) sc_l_by_sections.nd rfl (.inl rfl) (pe_kn k_l_pieces gd (hr.mono (by decide)) rfl (pa_cons (pv 3) pa_nil))) (pss_cons (ps_for PassesOwn.never rfl (pi_range1 rfl B.range (pa_cons pe_int pa_nil)) (pg_name (i := 5) sc_l_by_sections.nd rfl (.inl rfl)) (pss_cons (ps_set (i := 6) sc_l_by_sections.nd rfl (.inl rfl) (pe_kn k_pieces_of gd (hr.mono (by decide)) rfl (pa_cons (pv 3) pa_nil))) (pss_cons (ps_if (PW.pt (pw_or (pt_cmpR op_ne (pe_callB (call_reprA gd hr) rfl B.repr boot_repr (pa_cons (pv 6) pa_nil)) (pe_callB (call_reprA gd hr) rfl B.repr boot_repr (pa_cons (pv 4) pa_nil)) (nomark _)) (pw_or1 (pt_cmpR op_ne (pe_callB (call_reprA gd hr) rfl B.repr boot_repr (pa_cons (pe_kn k_whole_of gd (hr.mono (by decide)) rfl (pa_cons (pv 3) pa_nil)) pa_nil)) (pe_callB (call_reprA gd hr) rfl B.repr boot_repr (pa_cons (pe_kn k_l_whole gd (hr.mono (by decide)) rfl (pa_cons (pv 3) pa_nil)) pa_nil)) (nomark _))))) (pss_one (ps_ret pe_bl)) pss_nil) (pss_cons (ps_expr (pe_bm PySem.F.plainAttrs_list PySem.F.slot_list_insert PySem.F.type_list_insert mt_insert (pv 6) (pa_cons pe_int (pa_cons (pe_bm0 PySem.F.plainAttrs_list PySem.F.slot_list_pop PySem.F.type_list_pop mt_pop (pv 6)) pa_nil)))) (pss_one (ps_expr (pe_bm PySem.F.plainAttrs_list PySem.F.slot_list_append PySem.F.type_list_append mt_append (pv 6) (pa_cons pe_str pa_nil)))))))) (pss_cons (ps_par (i := 7) (j := 8) rfl sc_l_by_sections.nd rfl rfl (by decide) rfl rfl (pa_cons (pe_ix ix_tup (pv 3) pe_int (fun _ _ => rfl)) (pa_cons (pe_ix ix_tup (pv 3) pe_int (fun _ _ => rfl)) pa_nil)) (by rfl)) (pss_cons (ps_expr (pe_bm PySem.F.plainAttrs_list PySem.F.slot_list_append PySem.F.type_list_append mt_append (pv 4) (pa_cons (pe_tup (pa_cons (pe_ix ix_list (pv 2) pe_int (fun _ _ => rfl)) (pa_cons (pe_callB (call_minS rfl) rfl B.min bt_min (pa_cons (pe_ix ix_tup (pv 8) pe_int (fun _ _ => rfl)) (pa_cons (pe_ix ix_tup (pv 8) pe_int (fun _ _ => rfl)) pa_nil))) (pa_cons (pe_callB (call_maxS rfl) rfl B.max bt_max (pa_cons (pe_ix ix_tup (pv 8) pe_int (fun _ _ => rfl)) (pa_cons (pe_ix ix_tup (pv 8) pe_int (fun _ _ => rfl)) pa_nil))) pa_nil)))) pa_nil))) (pss_cons (ps_for PassesOwn.never rfl (pi_tup (pe_tup (pa_cons (pe_ix ix_tup (pv 8) pe_int (fun _ _ => rfl)) (pa_cons (pe_ix ix_list (pv 2) pe_int (fun _ _ => rfl)) (pa_cons (pe_ix ix_tup (pe_ix ix_tup (pe_ix ix_tup (pe_ix ix_tup (pv 0) pe_int (fun _ _ => rfl)) pe_int (fun _ _ => rfl)) pe_int (fun _ _ => rfl)) pe_int (fun _ _ => rfl)) (pa_cons (pe_ix ix_tup (pe_ix ix_tup (pe_ix ix_tup (pe_ix ix_tup (pv 0) pe_int (fun _ _ => rfl)) (pe_un un_neg pe_int) (fun _ _ => rfl)) pe_int (fun _ _ => rfl)) (pe_un un_neg pe_int) (fun _ _ => rfl)) pa_nil)))))) (pg_name (i := 9) sc_l_by_sections.nd rfl (.inl rfl)) (pss_one (ps_if (pt_cmpR op_ne (pv 9) (pe_ix ix_tup (pv 8) (pe_un un_neg pe_int) (fun _ _ => rfl)) (nomark _)) (pss_one (ps_expr (pe_bm PySem.F.plainAttrs_list PySem.F.slot_list_append PySem.F.type_list_append mt_append (pv 4) (pa_cons (pe_tup (pa_cons (pv 7) (pa_cons (pe_callB (call_minS rfl) rfl B.min bt_min (pa_cons (pv 9) (pa_cons (pe_ix ix_tup (pv 8) (pe_un un_neg pe_int) (fun _ _ => rfl)) pa_nil))) (pa_cons (pe_callB (call_maxS rfl) rfl B.max bt_max (pa_cons (pv 9) (pa_cons (pe_ix ix_tup (pv 8) (pe_un un_neg pe_int) (fun _ _ => rfl)) pa_nil))) pa_nil)))) pa_nil)))) pss_nil))) (pss_one (ps_for PassesOwn.never rfl (pi_list (pv 4)) (pg_name (i := 10) sc_l_by_sections.nd rfl (.inl rfl)) (pss_one (ps_if (pt_cmpR op_ne (pe_callB (call_reprA gd hr) rfl B.repr boot_repr (pa_cons (pe_kn k_stretch_at gd (hr.mono (by decide)) rfl (pa_cons (pv 0) (pa_cons (pv 10) pa_nil))) pa_nil)) (pe_callB (call_reprA gd hr) rfl B.repr boot_repr (pa_cons (pe_kn k_l_where gd (hr.mono (by decide)) rfl (pa_cons (pv 0) (pa_cons (pv 10) pa_nil))) pa_nil)) (nomark _)) (pss_one (ps_ret pe_bl)) pss_nil)))))))))) (pss_one (ps_ret pe_bl))), ?_⟩
    dsimp only [cxOf]
    have pl := bok.pl
    obtain ⟨a, s0, h0, e0, g0, us2, ue, ug, hv, ea, es, ts, _⟩ := bookD_inv dv
    have bne := bok.ne
    have bfew := bok.few
    have ul2 : us2.length = b.secs.length := by rw [ts.len, List.length_map]
    obtain ⟨sf, gf⟩ : ∃ sf, b.secs[0]? = some sf := ⟨_, List.getElem?_eq_getElem (by omega)⟩
    obtain ⟨sl, gl⟩ : ∃ sl, b.secs[b.secs.length - 1]? = some sl := ⟨_, List.getElem?_eq_getElem (by omega)⟩
    obtain ⟨vf, guf, df⟩ := ts.get 0 (secD sf) (by rw [List.getElem?_map, gf]; rfl)
    obtain ⟨vl', gul, dl⟩ := ts.get (b.secs.length - 1) (secD sl) (by rw [List.getElem?_map, gl]; rfl)
    rw [← ul2] at gul
    obtain ⟨fa, fm, ft, _, rfl, efa, efm, _⟩ := secD_inv df
    obtain ⟨la, lm, lt, _, rfl, ela, elm, _⟩ := secD_inv dl
    have plf := pl sf (List.mem_of_getElem? gf)
    have pll := pl sl (List.mem_of_getElem? gl)
    have tf := plf.two
    have tl2 := pll.two
    refine ⟨_, rfl, r, rfl, ⟨_, .of er⟩, ?_⟩
    refine for_it (walk_list (K := K) (a := r) (xs := us)) (fun k σ H' => ∃ (y3 y4 y5 y6 y7 y8 y9 y10 : Option V), σ = [some v, some (.ref r), some (.ref o), y3, y4, y5, y6, y7, y8, y9, y10] ∧ Same H H') ⟨_, _, _, _, _, _, _, _, rfl, Same.refl _⟩ (fun i σ H' _ pv => ?_) (fun k x σ Ha Hb hk pv y => ?_) (fun σ Ha pv => ?_)
    · obtain ⟨_, _, _, _, _, _, _, _, _, sm⟩ := pv
      exact .of (sm _ _ er)
    · obtain ⟨y3, y4, y5, y6, y7, y8, y9, y10, rfl, sm⟩ := pv
      obtain ⟨rfl, gx⟩ := y
      obtain ⟨dd, gd', dx2⟩ := (tr.tk (Same.tk sm)).getV k x gx
      rw [List.getElem?_map] at gd'
      obtain ⟨sk, gs, rfl⟩ := Option.map_eq_some_iff.mp gd'
      have skm : sk ∈ b.secs := List.mem_of_getElem? gs
      have sp := pl sk skm
      have slen := sp.len
      have sfew := sp.few
      have stwo := sp.two
      refine gName_go ?_
      try dsimp only
      refine asgE_go (call_go ⟨_, rfl, x, sk, rfl, dx2, slen, by omega, fun H1 r1 s1 n1 l1 => ?_⟩)
      refine gName_go ?_
      try dsimp only
      have sm1 := sm.trans s1
      refine ⟨2, rfl, by decide, by decide, ?_⟩
      refine for_it (walk_range (lo := 0) (n := 2)) (fun j σ H' => ∃ (y5 y6 : Option V), σ = [some v, some (.ref r), some (.ref o), some x, some (.ref r1), y5, y6, y7, y8, y9, y10] ∧ Same H1 H') ⟨_, _, rfl, Same.refl _⟩ (fun _ _ _ _ _ => trivial) (fun j x5 σ Hc Hd hj pv y => ?_) (fun σ Hc pv => ?_)
      · obtain ⟨z5, z6, rfl, sc⟩ := pv
        obtain ⟨rfl, gx⟩ := y
        refine gName_go ?_
        try dsimp only
        have dxc := dx2.tk (Same.tk (s1.trans sc))
        refine asgE_go (call_go ⟨_, rfl, x, sk, rfl, dxc, slen, by omega, fun H2 r2 s2 n2 l2 => ?_⟩)
        refine gName_go ?_
        try dsimp only
        have sc2 := sc.trans s2
        refine ifS_go ⟨_, rfl, _, _, _, 2, rfl, l2.dp, pcs_sm sp, by decide, by decide, _, rfl, _, _, _, 2, rfl, (l1.same sc2).dp, pcs_sm sp, by decide, by decide, rfl, _, rfl, ?_⟩
        rw [decide_eq_true rfl]
        refine iteF ?_
        refine test_go (op_go (cB_go (cons_go (call_go ⟨_, rfl, x, sk, rfl, dxc.tk (Same.tk s2), by omega, fun H3 v3 s3 t3 => ⟨v3, _, 3, 1, rfl, t3.dp, sums_sm sp, by decide, by decide, ?_⟩⟩))))
        refine cB_go (cons_go (call_go ⟨_, rfl, x, sk, rfl, dxc.tk (Same.tk (s2.trans s3)), by omega, fun H4 v4 s4 t4 => ⟨v4, _, 3, 1, rfl, t4.dp, sums_sm sp, by decide, by decide, ?_⟩⟩))
        refine ⟨rfl, _, rfl, ?_⟩
        rw [decide_eq_true rfl]
        refine iteF ?_
        dsimp only [tNext]
        obtain ⟨vs2, e2, t2⟩ := l2
        have vl : vs2.length = sk.ms.length - 1 := by rw [t2.len, List.length_map, pcs_len]
        have n2' : H1 r2 = none := same_none sc n2
        have sc4 := sc2.trans (s3.trans s4)
        have e4 := s4 _ _ (s3 _ _ e2)
        refine ⟨_, rfl, .inl ⟨rfl, _, .of e4⟩, _, rfl, .inl ⟨rfl, _, .of e4⟩, r2, vs2, _, rfl, rfl, e4, List.getElem?_eq_getElem (by omega), r2, _, 0, _, rfl, rfl, upd_same, len20k (by rw [List.length_dropLast]; omega), by decide, by decide, ?_⟩
        dsimp only [tNext]
        refine ⟨_, rfl, .inl ⟨rfl, _, .of upd_same⟩, r2, _, _, rfl, rfl, upd_same, len20k (by simp only [List.length_append, List.length_take, List.length_drop, List.length_dropLast, List.length_cons, List.length_nil]; omega), ?_⟩
        exact ⟨_, _, rfl, same_mut (same_mut (same_mut sc4 n2') n2') n2'⟩
      · obtain ⟨z5, z6, rfl, sc⟩ := pv
        dsimp only
        obtain ⟨pa, pm, pt, ut, rfl, epa, epm, _⟩ := secD_inv (dx2.tk (Same.tk (s1.trans sc)))
        have smc := sm1.trans sc
        have n1' : H r1 = none := same_none sm n1
        have l1c := l1.same sc
        have eoc := smc _ _ eo
        refine ⟨_, rfl, pa, _, 0, _, rfl, rfl, .of epa, atI_nat (j := 0) rfl, _, rfl, pa, _, 1, _, rfl, rfl, .of epa, atI_nat (j := 1) rfl, _, _, rfl, ?_⟩
        dsimp only [tNext]
        obtain ⟨vs1, e1, t1⟩ := l1c
        have vl : vs1.length = sk.ms.length - 1 := by rw [t1.len, List.length_map, pcs_len]
        refine ⟨_, rfl, .inl ⟨rfl, _, .of e1⟩, _, rfl, o, _, 0, _, rfl, rfl, .of eoc, at_get (k := 0) rfl (by omega), _, rfl, pm, _, 0, _, rfl, rfl, .of epm, at_get (k := 0) rfl (by omega), _, rfl, pm, _, 1, _, rfl, rfl, .of epm, at_get (k := 1) rfl (by omega), _, _, rfl, _, rfl, pm, _, 0, _, rfl, rfl, .of epm, at_get (k := 0) rfl (by omega), _, rfl, pm, _, 1, _, rfl, rfl, .of epm, at_get (k := 1) rfl (by omega), _, _, rfl, (by show 3 ≤ sizeLine; decide), fun p np => ?_⟩
        obtain ⟨sp1, ep⟩ := nxo (o := .tup [.str (os.getD 0 ""), .str (minS (sk.ms.getD 0 "") (sk.ms.getD 1 "")), .str (maxS (sk.ms.getD 0 "") (sk.ms.getD 1 ""))]) np
        refine ⟨r1, vs1, _, rfl, rfl, sp1 _ _ e1, len20k (by omega), ?_⟩
        have N0 := (sp.ms _ (getD_mem (k := 0) (by omega))).sh
        have N1 := (sp.ms _ (getD_mem (k := 1) (by omega))).sh
        have p0 : PcOk (os.getD 0 "", minS (sk.ms.getD 0 "") (sk.ms.getD 1 ""), maxS (sk.ms.getD 0 "") (sk.ms.getD 1 "")) := ⟨(on _ (getD_mem (k := 0) (by omega))).sh, minS_sh N0 N1, maxS_sh N0 N1⟩
        have ld5 := LD.push (sp1 _ _ e1) (t1.tk (Same.tk sp1)) (d := pcD (os.getD 0 "", minS (sk.ms.getD 0 "") (sk.ms.getD 1 ""), maxS (sk.ms.getD 0 "") (sk.ms.getD 1 ""))) (.tup ep (dtAll_strs [_, _, _]))
        have smp : Same H (upd (upd Hc p (.tup [.str (os.getD 0 ""), .str (minS (sk.ms.getD 0 "") (sk.ms.getD 1 "")), .str (maxS (sk.ms.getD 0 "") (sk.ms.getD 1 ""))])) r1 (.lst (vs1 ++ [.ref p]))) := same_mut (smc.trans sp1) n1'
        have tkp : TK Hc (upd (upd Hc p (.tup [.str (os.getD 0 ""), .str (minS (sk.ms.getD 0 "") (sk.ms.getD 1 "")), .str (maxS (sk.ms.getD 0 "") (sk.ms.getD 1 ""))])) r1 (.lst (vs1 ++ [.ref p]))) := TK.trans (Same.tk sp1) (tk_updL (sp1 _ _ e1))
        have ps0 : ∃ ps : List Pc, LD (upd (upd Hc p (.tup [.str (os.getD 0 ""), .str (minS (sk.ms.getD 0 "") (sk.ms.getD 1 "")), .str (maxS (sk.ms.getD 0 "") (sk.ms.getD 1 ""))])) r1 (.lst (vs1 ++ [.ref p]))) r1 (ps.map pcD) ∧ (∀ p ∈ ps, PcOk p) ∧ ps.length ≤ 8 := by
          refine ⟨pcs sk ++ [(os.getD 0 "", minS (sk.ms.getD 0 "") (sk.ms.getD 1 ""), maxS (sk.ms.getD 0 "") (sk.ms.getD 1 ""))], ?_, ?_, ?_⟩
          · rw [List.map_append]
            exact ld5
          · intro q hq
            rcases List.mem_append.mp hq with h | h
            · exact pcs_ok sp q h
            · rw [List.mem_singleton.mp h]
              exact p0
          · rw [List.length_append, pcs_len]
            simp only [List.length_cons, List.length_nil]
            omega
        clear ld5
        generalize upd (upd Hc p (.tup [.str (os.getD 0 ""), .str (minS (sk.ms.getD 0 "") (sk.ms.getD 1 "")), .str (maxS (sk.ms.getD 0 "") (sk.ms.getD 1 ""))])) r1 (.lst (vs1 ++ [.ref p])) = H5 at smp tkp ps0 ⊢
        try dsimp only [tNext]
        have epm5 := tkp _ _ epm
        refine ⟨_, rfl, pm, _, 0, _, rfl, rfl, .of epm5, at_get (k := 0) rfl (by omega), _, rfl, o, _, 1, _, rfl, rfl, .of (smp _ _ eo), at_get (k := 1) rfl (by omega), ?_⟩
        refine ⟨_, rfl, a, _, 0, _, hv, rfl, .of (smp _ _ ea), atI_nat (j := 0) rfl, s0, _, 0, _, rfl, rfl, .of (smp _ _ es), atI_nat (j := 0) guf, fa, _, 1, _, rfl, rfl, .of (smp _ _ efa), atI_nat (j := 1) rfl, fm, _, 0, _, rfl, rfl, .of (smp _ _ efm), at_get (k := 0) rfl (by omega), ?_⟩
        refine ⟨_, rfl, a, _, 0, _, hv, rfl, .of (smp _ _ ea), atI_nat (j := 0) rfl, _, rfl, s0, _, -1, _, rfl, rfl, .of (smp _ _ es), at_end' gul, la, _, 1, _, rfl, rfl, .of (smp _ _ ela), atI_nat (j := 1) rfl, _, rfl, lm, _, -1, _, rfl, rfl, .of (smp _ _ elm), at_lastS (by omega), (by show 4 ≤ sizeLine; decide), fun t4 nt4 => ?_⟩
        obtain ⟨qs, hqs⟩ : ∃ qs : List Str, qs = [sk.ms.getD 0 "", os.getD 1 "", sf.ms.getD 0 "", sl.ms.getD (sl.ms.length - 1) ""] := ⟨_, rfl⟩
        have hq : [V.str (sk.ms.getD 0 ""), V.str (os.getD 1 ""), V.str (sf.ms.getD 0 ""), V.str (sl.ms.getD (sl.ms.length - 1) "")] = qs.map V.str := by rw [hqs]; rfl
        have qn : ∀ z ∈ qs, Sh 8 z := by
          intro z hz
          rw [hqs] at hz
          rcases List.mem_cons.mp hz with rfl | hz
          · exact N0
          rcases List.mem_cons.mp hz with rfl | hz
          · exact (on _ (getD_mem (by omega))).sh
          rcases List.mem_cons.mp hz with rfl | hz
          · exact (plf.ms _ (getD_mem (by omega))).sh
          · rw [List.mem_singleton.mp hz]
            exact (pll.ms _ (getD_mem (by omega))).sh
        have ql : qs.length = 4 := by rw [hqs]; rfl
        clear hqs
        rw [hq]
        obtain ⟨s6, e6⟩ := nxo (o := .tup (qs.map V.str)) nt4
        have sm6 := smp.trans s6
        have tk6 := TK.trans tkp (Same.tk s6)
        have ps6 : ∃ ps : List Pc, LD (upd H5 t4 (.tup (qs.map V.str))) r1 (ps.map pcD) ∧ (∀ p ∈ ps, PcOk p) ∧ ps.length ≤ 8 := by
          obtain ⟨ps, l, o', n'⟩ := ps0
          exact ⟨ps, l.same s6, o', n'⟩
        have epm6 := tk6 _ _ epm
        clear ps0 s6 smp tkp epm5 sp1 ep e1 t1 vl
        generalize upd H5 t4 (.tup (qs.map V.str)) = H6 at e6 sm6 tk6 ps6 epm6 ⊢
        refine ⟨t4, rfl, ⟨_, .of e6⟩, ?_⟩
        refine for_it (walk_tup (K := K) (a := t4) (xs := qs.map V.str)) (fun j σ H' => ∃ (y9 : Option V) (ps : List Pc), σ = [some v, some (.ref r), some (.ref o), some (.ref pa), some (.ref r1), z5, z6, some (.str sk.nm), some (.ref pm), y9, y10] ∧ Same H H' ∧ TK H6 H' ∧ LD H' r1 (ps.map pcD) ∧ (∀ p ∈ ps, PcOk p) ∧ ps.length ≤ 8 + j) ?_ (fun i σ H' _ pv => ?_) (fun j x5 σ Hd He hj pv y => ?_) (fun σ Hd pv => ?_)
        · obtain ⟨ps, l, o', n'⟩ := ps6
          exact ⟨_, ps, rfl, sm6, TK.refl _, l, o', n'⟩
        · obtain ⟨_, _, _, _, tk, _⟩ := pv
          exact .of (tk _ _ e6)
        · obtain ⟨y9', ps, rfl, smd, tkd, ld, pok, pn⟩ := pv
          obtain ⟨rfl, gx5⟩ := y
          rw [List.getElem?_map] at gx5
          obtain ⟨z, gz, rfl⟩ := Option.map_eq_some_iff.mp gx5
          have zs := qn z (List.mem_of_getElem? gz)
          rw [List.length_map, ql] at hj
          refine gName_go ?_
          try dsimp only
          have epd := tkd _ _ epm6
          have NL := (sp.ms _ (getD_mem (k := sk.ms.length - 1) (by omega))).sh
          refine ifS_go ⟨_, rfl, _, rfl, _, rfl, pm, _, -1, _, rfl, rfl, .of epd, at_lastS (by omega), rfl, _, rfl, ?_⟩
          refine ite2 (fun c => ?_) (fun c => ?_)
          · obtain ⟨vs7, e7, t7⟩ := ld
            have vl7 : vs7.length = ps.length := by rw [t7.len, List.length_map]
            refine ⟨_, rfl, .inl ⟨rfl, _, .of e7⟩, _, rfl, _, rfl, _, rfl, _, rfl, pm, _, -1, _, rfl, rfl, .of epd, at_lastS (by omega), _, _, rfl, _, rfl, _, rfl, _, rfl, pm, _, -1, _, rfl, rfl, .of epd, at_lastS (by omega), _, _, rfl, (by show 3 ≤ sizeLine; decide), fun p' np' => ?_⟩
            obtain ⟨s8, e8⟩ := nxo (o := .tup [.str sk.nm, .str (minS z (sk.ms.getD (sk.ms.length - 1) "")), .str (maxS z (sk.ms.getD (sk.ms.length - 1) ""))]) np'
            refine ⟨r1, vs7, _, rfl, rfl, s8 _ _ e7, len20k (by omega), ?_⟩
            have ld8 := LD.push (s8 _ _ e7) (t7.tk (Same.tk s8)) (d := pcD (sk.nm, minS z (sk.ms.getD (sk.ms.length - 1) ""), maxS z (sk.ms.getD (sk.ms.length - 1) ""))) (.tup e8 (dtAll_strs [_, _, _]))
            refine ⟨_, ps ++ [(sk.nm, minS z (sk.ms.getD (sk.ms.length - 1) ""), maxS z (sk.ms.getD (sk.ms.length - 1) ""))], rfl, same_mut (smd.trans s8) n1', TK.trans tkd (TK.trans (Same.tk s8) (tk_updL (s8 _ _ e7))), ?_, ?_, ?_⟩
            · rw [List.map_append]
              exact ld8
            · intro q hq
              rcases List.mem_append.mp hq with h | h
              · exact pok q h
              · rw [List.mem_singleton.mp h]
                exact ⟨sp.nm.sh, minS_sh zs NL, maxS_sh zs NL⟩
            · rw [List.length_append]
              simp only [List.length_cons, List.length_nil]
              omega
          · exact ⟨_, ps, rfl, smd, tkd, ld, pok, by omega⟩
        · obtain ⟨y9', ps, rfl, smd, tkd, ld, pok, pn⟩ := pv
          dsimp only
          obtain ⟨vs7, e7, t7⟩ := ld
          refine ⟨_, rfl, r1, rfl, ⟨_, .of e7⟩, ?_⟩
          refine for_it (walk_list (K := K) (a := r1) (xs := vs7)) (fun j σ H' => ∃ (y10 : Option V), σ = [some v, some (.ref r), some (.ref o), some (.ref pa), some (.ref r1), z5, z6, some (.str sk.nm), some (.ref pm), y9', y10] ∧ Same Hd H') ⟨_, rfl, Same.refl _⟩ (fun i σ H' _ pv => ?_) (fun j x5 σ He Hf hj pv y => ?_) (fun σ He pv => ?_)
          · obtain ⟨_, _, se⟩ := pv
            exact .of (se _ _ e7)
          · obtain ⟨y10', rfl, se⟩ := pv
            obtain ⟨rfl, gx5⟩ := y
            obtain ⟨dd, gdd, dp5⟩ := (t7.tk (Same.tk se)).getV j x5 gx5
            rw [List.getElem?_map] at gdd
            obtain ⟨pc, gpc, rfl⟩ := Option.map_eq_some_iff.mp gdd
            have pco := pok pc (List.mem_of_getElem? gpc)
            refine gName_go ?_
            try dsimp only
            have sme := smd.trans se
            refine ifS_go (test_go (op_go (cB_go (cons_go (call_go ⟨_, rfl, _, rfl, v, x5, b, pc, rfl, dv.tk (Same.tk sme), dp5, pco, bfew, pl, fun H7 v7 s7 d7 => ⟨v7, _, 10, 1, rfl, d7.dp, optD_sm pl, by decide, by decide, ?_⟩⟩)))))
            refine cB_go (cons_go (call_go ⟨_, rfl, _, rfl, v, x5, b, pc, rfl, dv.tk (Same.tk (sme.trans s7)), dp5.tk (Same.tk s7), pco, bfew, pl, fun H8 v8 s8 d8 => ⟨v8, _, 10, 1, rfl, d8.dp, optD_sm pl, by decide, by decide, ?_⟩⟩))
            refine ⟨rfl, _, rfl, ?_⟩
            rw [decide_eq_true rfl]
            exact iteF ⟨_, rfl, se.trans (s7.trans s8)⟩
          · obtain ⟨y10', rfl, se⟩ := pv
            exact ⟨_, _, _, _, _, _, _, _, rfl, smd.trans se⟩
    · obtain ⟨_, _, _, _, _, _, _, _, rfl, sm⟩ := pv
      exact q _ sm
end
end Pb

namespace Pb
open PySem PySem.Spec PyProof.Rows L2 TL
abbrev s_law : Stmt := top 40
abbrev n_law : List Str := ["_law_script", "_law_draw", "_law_turn", "_law_book_here", "_law_stays", "_law_section_here", "_law_names_here", "_law_marks_here", "_law_others", "_law_at", "_law_way", "_law_badge_here"]
abbrev p_law : List Str := ["_law_script"]
theorem sc_law : FnScope n_law p_law (defScope s_law) := ⟨rfl, rfl, rfl, by decide +kernel, rfl, by decide +kernel, by decide +kernel⟩
def spLaw (K : PySem.W.Frag) : Sp := fun vs H Q _ => ∃ (a : Addr) (ns : List Int), vs = [.ref a] ∧ SqL K H a (ns.map V.int) ∧ ns.length ≤ 63 ∧ ∀ H', Q (.bl true) H'
theorem sh_a : Sh 8 ("a" : Str) := by
  have h : (tl ("a" : Str)).all (fun c => decide (c < 128)) = true ∧ (tl ("a" : Str)).length ≤ 8 := by decide +kernel
  exact ⟨fun c hc => of_decide_eq_true (List.all_eq_true.mp h.1 c hc), h.2⟩
theorem sh_by {z : Str} {k : Nat} (h : ((tl z).all (fun c => decide (c < 128)) && decide ((tl z).length ≤ k)) = true) : Sh k z := by
  obtain ⟨h1, h2⟩ := Bool.and_eq_true_iff.mp h
  exact ⟨fun c hc => of_decide_eq_true (List.all_eq_true.mp h1 c hc), of_decide_eq_true h2⟩
theorem Ly.up {j k : Nat} {d : PyData} (h : Ly j d) (hk : j ≤ k) : Ly k d := ⟨h.1, Nat.le_trans h.2 hk⟩
/-- what the law asks for by name -/
def PX (t u : Addr) (x : V) : Prop := (∃ z, x = .str z ∧ Nm z) ∨ x = .non ∨ x = .int 5 ∨ x = .ref t ∨ x = .ref u
theorem px_ns {K : PySem.W.Frag} {H : Hp} {t u : Addr} (et : H t = some (.tup [.str "a"])) (eu : H u = some (.lst [.str "a"])) {x : V} (h : PX t u x) : ∃ d, NS K H x d := by
  rcases h with ⟨z, rfl, hz⟩ | rfl | rfl | rfl | rfl
  · exact ⟨.str z, ⟨.str z, ⟨_, .str z⟩, fun z' e => (V.str.inj e) ▸ hz.sh, (sm_sh hz.sh).le (by decide) (by decide), (Ly.str hz.sh).up (by decide), fun c => absurd rfl (c z)⟩, repr_sh hz⟩
  · exact ⟨.none, ⟨.non, ⟨_, .non⟩, (fun z' e => nomatch e), Sm.non.le (by decide) (by decide), Ly.non.up (by decide), fun _ _ => rfl⟩, sh_by (by decide +kernel)⟩
  · exact ⟨.int 5, ⟨.int 5, ⟨_, .int 5⟩, (fun z' e => nomatch e), (Sm.int (by decide)).le (by decide) (by decide), (Ly.int 5).up (by decide), fun _ _ => rfl⟩, sh_by (by decide +kernel)⟩
  · exact ⟨.tuple [.str "a"], ⟨.tup (.of et) (.cons (.str _) .nil), ⟨_, .tup et⟩, (fun z' e => nomatch e), (Sm.tup (.cons (sm_sh sh_a) .nil)).le (by decide) (by decide), (Ly.tup (.cons (.str sh_a) .nil)).up (by decide), fun _ _ => rfl⟩, sh_by (by decide +kernel)⟩
  · exact ⟨.list [.str "a"], ⟨.lst (.of eu) (.cons (.str _) .nil), ⟨_, .lst eu⟩, (fun z' e => nomatch e), (Sm.lst (.cons (sm_sh sh_a) .nil)).le (by decide) (by decide), (Ly.lst (.cons (.str sh_a) .nil)).up (by decide), fun _ _ => rfl⟩, sh_by (by decide +kernel)⟩
theorem bdg_sm {g : Bdg} (o : BdgOk g) : Sm 19 1 (bdgD g) := by
  have lo := o.lo
  have hi := o.hi
  exact .tup (.cons (sm_sh o.nm.sh) (.cons (sm_sh (sorts_sh o.sort)) (.cons (.int (by omega)) .nil)))
theorem BkOk.hnm {b : Bk} (bok : BkOk b) : ∀ h ∈ b.halts, Nm h := fun h hh => by
  obtain ⟨s, hs, hm⟩ := bok.hsub h hh
  exact (bok.pl s hs).ms h hm
theorem book_sm {b : Bk} (bok : BkOk b) : Sm 3000 5 (bookD b) := by
  have a : SmA ((120 + 1) * 8) 3 (b.secs.map secD) := sm_map _ (fun s hs => sec_sm (bok.pl s hs)) bok.few
  have h : SmA ((8 + 1) * 20) 0 (b.halts.map .str) := sm_map _ (fun s hs => sm_sh (bok.hnm s hs).sh) bok.hfew
  have e : SmA (((8 + 1) * 4 + 1) * 4) 1 (b.bes.map bsD) := sm_map _ (fun l hl => names_sm (bok.besN l hl) (bok.bes.some l hl).2) bok.bes.few
  have g : SmA ((19 + 1) * 6) 1 (b.bdg.map bdgD) := sm_map _ (fun g hg => bdg_sm (bok.bok g hg)) bok.bfew
  exact (Sm.tup (.cons (.tup a) (.cons (.tup h) (.cons (.tup e) (.cons (.tup g) .nil))))).le (by decide) (by decide)
theorem par_go {i j : Nat} {ta : TA} {D : Ends} {σ : L2.St} {H : Hp} (h : ta σ H fun vs H1 => ∃ v w, vs = [v, w] ∧ D.nx ((σ.set i (some v)).set j (some w)) H1) : tPar i j ta D σ H := h
theorem cut_mem {xs : List V} {lo hi : Option Int} {x : V} (h : x ∈ cutV xs lo hi) : x ∈ xs := List.mem_of_mem_drop (List.mem_of_mem_take h)
section
variable {P : Program} {w : World} {K : PySem.W.Frag} {mg : Str → Option Value} {base : Heap}
theorem okG_law {f : Addr} {fd : FuncData} (F : FnD K "law" s_law [] f fd) (B : BG mg) (k_l_begin : Kn P w K mg base "_law_begin" 1 ["_law_script"] (spBegin K)) (k_l_next : Kn P w K mg base "_law_next" 2 ["_law_draw", "_law_many"] spNext) (k_l_book : Kn P w K mg base "_law_book" 5 p_l_book spBook) (k_l_names : Kn P w K mg base "_law_names" 3 p_l_names spNames) (k_l_by_names : Kn P w K mg base "_law_by_names" 6 p_l_by_names (spByNames K)) (k_l_by_marks : Kn P w K mg base "_law_by_marks" 2 p_l_by_marks spByMarks) (k_l_by_sections : Kn P w K mg base "_law_by_sections" 4 p_l_by_sections spBySections) : FnG P w K mg base CX0 7 f fd p_law (spLaw K) := by
  refine fnG_of F sc_law (fun vs H Q E h => ?_) (fun cdv A outer s H vs Q E gd hr h => ?_)
  · obtain ⟨a, ns, rfl, _⟩ := h
    rfl
  · obtain ⟨a, ns, rfl, hS, hl, q⟩ := h
    refine ⟨_, PSs.nox (pss_cons (ps_set (i := 1) sc_law.nd rfl (.inl rfl) (pe_kn k_l_begin gd (hr.mono (by decide)) rfl (pa_cons (pv 0) pa_nil))) (pss_cons (ps_for PassesOwn.never rfl (pi_range1 rfl B.range (pa_cons pe_int pa_nil)) (pg_name (i := 2) sc_law.nd rfl (.inl rfl)) (pss_cons (ps_set (i := 3) sc_law.nd rfl (.inl rfl) (pe_kn k_l_book gd (hr.mono (by decide)) rfl (pa_cons (pv 1) (pa_cons (pe_ix ix_list (pe_lst (pa_cons pe_int (pa_cons (pe_op op_add pe_int (pe_kn k_l_next gd (hr.mono (by decide)) rfl (pa_cons (pv 1) (pa_cons pe_int pa_nil)))) (pa_cons (pe_op op_add pe_int (pe_kn k_l_next gd (hr.mono (by decide)) rfl (pa_cons (pv 1) (pa_cons pe_int pa_nil)))) pa_nil)))) (pe_kn k_l_next gd (hr.mono (by decide)) rfl (pa_cons (pv 1) (pa_cons pe_int pa_nil))) (fun _ _ => rfl)) pa_nil)))) (pss_cons (ps_set (i := 4) sc_law.nd rfl (.inl rfl) (pe_callB (call_reprA gd hr) rfl B.repr boot_repr (pa_cons (pv 3) pa_nil))) (pss_cons (ps_par (i := 6) (j := 7) rfl sc_law.nd rfl rfl (by decide) rfl rfl (pa_cons (pe_op op_catS (pe_lc (own := [("_law_section_here", 5)]) (g := gName 5) (tt := tYes) (te := tOp (rIxT K) (tVar 5) (tC (.int 0))) rfl sc_law.nd (pi_tup (pe_ix ix_tup (pv 3) pe_int (fun _ _ => rfl))) (blkOk_by (N := n_law) (sc := defScope s_law) (by decide +kernel)) (fun _ _ _ _ _ => (pg_name (i := 5) sc_law.nd rfl (.inl rfl))) (fun _ _ _ _ _ => pts_nil) (fun _ _ _ _ _ => (pe_ix ix_tup (pv 5) pe_int (fun _ _ => rfl)))) (pe_lc (own := [("_law_badge_here", 11)]) (g := gName 11) (tt := tYes) (te := tOp (rIxT K) (tVar 11) (tC (.int 0))) rfl sc_law.nd (pi_tup (pe_ix ix_tup (pv 3) pe_int (fun _ _ => rfl))) (blkOk_by (N := n_law) (sc := defScope s_law) (by decide +kernel)) (fun _ _ _ _ _ => (pg_name (i := 11) sc_law.nd rfl (.inl rfl))) (fun _ _ _ _ _ => pts_nil) (fun _ _ _ _ _ => (pe_ix ix_tup (pv 11) pe_int (fun _ _ => rfl))))) (pa_cons (pe_callTy call_list_of rfl B.list bt_list (pa_cons (pe_ix ix_tup (pv 3) pe_int (fun _ _ => rfl)) pa_nil)) pa_nil)) (by rfl)) (pss_cons (ps_for PassesOwn.never rfl (pi_tup (pe_ix ix_tup (pv 3) pe_int (fun _ _ => rfl))) (pg_name (i := 5) sc_law.nd rfl (.inl rfl)) (pss_one (ps_expr (pe_bm PySem.F.plainAttrs_list PySem.F.slot_list_extend PySem.F.type_list_extend mt_extT (pv 7) (pa_cons (pe_ix ix_tup (pv 5) pe_int (fun _ _ => rfl)) pa_nil))))) (pss_cons (ps_set (i := 8) sc_law.nd rfl (.inl rfl) (pe_kn k_l_names gd (hr.mono (by decide)) rfl (pa_cons (pv 1) (pa_cons pe_int pa_nil)))) (pss_cons (ps_par (i := 6) (j := 7) rfl sc_law.nd rfl rfl (by decide) rfl rfl (pa_cons (pe_op op_catS (pe_op op_catS (pe_op op_catS (pv 6) (pv 8)) (pe_slice sl_list (pv 7) po_none (po_some pe_int))) (pe_lst (pa_cons pe_non (pa_cons pe_int (pa_cons (pe_tup (pa_cons pe_str pa_nil)) (pa_cons (pe_lst (pa_cons pe_str pa_nil)) pa_nil)))))) (pa_cons (pe_op op_catS (pv 7) (pv 8)) pa_nil)) (by rfl)) (pss_cons (ps_set (i := 9) sc_law.nd rfl (.inl rfl) (pe_kn k_l_next gd (hr.mono (by decide)) rfl (pa_cons (pv 1) (pa_cons (pe_callB call_len_seq rfl B.len PySem.boot_len (pa_cons (pv 6) pa_nil)) pa_nil)))) (pss_cons (ps_set (i := 6) sc_law.nd rfl (.inl rfl) (pe_op op_catS (pe_slice sl_list (pv 6) (po_some (pv 9)) po_none) (pe_slice sl_list (pv 6) po_none (po_some (pv 9))))) (pss_one (ps_for PassesOwn.never rfl (pi_range1 rfl B.range (pa_cons pe_int pa_nil)) (pg_name (i := 10) sc_law.nd rfl (.inl rfl)) (pss_cons (ps_if (PW.pt (pw_or (pt_not (pt_val (pe_kn k_l_by_names gd (hr.mono (by decide)) rfl (pa_cons (pv 3) (pa_cons (pv 6) pa_nil))))) (pw_or1 (pt_not (pt_val (pe_kn k_l_by_marks gd (hr.mono (by decide)) rfl (pa_cons (pv 3) (pa_cons (pe_sortSet rfl B.sorted rfl B.set (pv 7)) pa_nil)))))))) (pss_one (ps_ret pe_bl)) pss_nil) (pss_cons (ps_if (PW.pt (pw_or (pt_not (pt_val (pe_kn k_l_by_sections gd (hr.mono (by decide)) rfl (pa_cons (pv 3) (pa_cons (pe_callTy call_list_of rfl B.list bt_list (pa_cons (pe_ix ix_tup (pv 3) pe_int (fun _ _ => rfl)) pa_nil)) (pa_cons (pv 8) pa_nil)))))) (pw_or1 (pt_cmpR op_ne (pe_callB (call_reprA gd hr) rfl B.repr boot_repr (pa_cons (pv 3) pa_nil)) (pv 4) (nomark _))))) (pss_one (ps_ret pe_bl)) pss_nil) (pss_one (ps_set (i := 6) sc_law.nd rfl (.inl rfl) (pe_revL (pv 6))))))))))))))))) (pss_one (ps_ret pe_bl)))), ?_⟩
    dsimp only [cxOf]
    refine asgE_go (call_go ⟨_, rfl, a, ns, rfl, hS, hl, fun H1 d c nc nd dr0 bt => ?_⟩)
    refine gName_go ?_
    try dsimp only
    refine ⟨3, rfl, by decide, by decide, ?_⟩
    refine for_it (walk_range (lo := 0) (n := 3)) (fun k σ H' => ∃ (y2 y3 y4 y5 y6 y7 y8 y9 y10 : Option V), σ = [some (.ref a), some (.ref d), y2, y3, y4, y5, y6, y7, y8, y9, y10, none] ∧ Dr H' d (4000 * k)) ⟨_, _, _, _, _, _, _, _, _, rfl, dr0⟩ (fun _ _ _ _ _ => trivial) (fun k x σ Ha Hb hk pv y => ?_) (fun σ Ha pv => ?_)
    · obtain ⟨y2, y3, y4, y5, y6, y7, y8, y9, y10, rfl, dr⟩ := pv
      obtain ⟨rfl, gx⟩ := y
      refine gName_go ?_
      try dsimp only
      refine asgE_go (call_go ⟨_, rfl, _, rfl, d, 3, _, rfl, dr, by decide, by decide, by omega, fun i1 H2 i0 i3 dr2 b2 => ⟨_, _, rfl, rfl, _, rfl, d, 8, _, rfl, dr2, by decide, by decide, by omega, fun j1 H3 j0 j3 dr3 b3 => ⟨_, _, rfl, rfl, (by show 3 ≤ sizeLine; decide), fun p np => ?_⟩⟩⟩)
      obtain ⟨sp, ep⟩ := nxo (o := .lst [.int 8, .int (1 + i1), .int (1 + j1)]) np
      have dr4 := dr3.same sp
      generalize upd H3 p (.lst [.int 8, .int (1 + i1), .int (1 + j1)]) = H4 at sp ep dr4 ⊢
      refine ⟨_, rfl, d, 3, _, rfl, dr4, by decide, by decide, by omega, fun m1 H5 m0 m3 dr5 b5 => ?_⟩
      obtain ⟨m, ml, mu, hm⟩ : ∃ m : Nat, 1 ≤ m ∧ m ≤ 8 ∧ atI [V.int 8, .int (1 + i1), .int (1 + j1)] m1 = some (.int (m : Nat)) := by
        have : m1 = 0 ∨ m1 = 1 ∨ m1 = 2 := by omega
        rcases this with rfl | rfl | rfl
        · exact ⟨8, by decide, by decide, rfl⟩
        · exact ⟨(1 + i1).toNat, by omega, by omega, by rw [Int.toNat_of_nonneg (by omega)]; rfl⟩
        · exact ⟨(1 + j1).toNat, by omega, by omega, by rw [Int.toNat_of_nonneg (by omega)]; rfl⟩
      refine ⟨p, _, _, _, rfl, rfl, .of (b5.kp.lst dr4 ep), hm, d, m, _, rfl, dr5, by omega, ml, mu, fun b v H6 bok dr6 kp6 dv => ?_⟩
      clear hm sp ep dr2 dr3 dr4 dr5 b2 b3 b5 kp6
      refine gName_go ?_
      try dsimp only
      refine asgE_go (cB_go (cons_go ⟨_, rfl, v, _, 3000, 5, rfl, dv.dp, book_sm bok, by decide, by decide, ?_⟩))
      refine gName_go ?_
      try dsimp only
      obtain ⟨ba, s0, h0, e0, g0, us, ue, ug, rfl, ea, es, ts, eh, _, _, eg, tg⟩ := bookD_inv dv
      have pl := bok.pl
      have bfew := bok.few
      have bbf := bok.bfew
      have bhf := bok.hfew
      refine par_go (cons_go (op_go (lc_in ⟨_, rfl, ba, _, 0, _, rfl, rfl, .of ea, atI_nat (j := 0) rfl, s0, rfl, ⟨_, .of es⟩, ?_⟩)))
      refine lc_tup (K := K) (xs := b.secs) (f := secD) (p := fun _ => true) (gd := fun s => .str s.nm) es ts (by omega) (fun s x2 H1 N1 N0 hs sm dx n1 n0 => ⟨wiped, ?_⟩) fun H7 D1 s7 nD1 l1 => ?_
      · obtain ⟨pa, pm, pt, ut, rfl, ep, _⟩ := secD_inv dx
        dsimp only [tYes]
        rw [if_pos rfl]
        exact ⟨_, gOwn (Nat.lt_of_sub_eq_succ rfl), pa, _, 0, _, rfl, rfl, .of ep, atI_nat (j := 0) rfl, n1 _ _ (Same.refl _) rfl (.str _)⟩
      rw [List.filter_eq_self.mpr (fun _ _ => rfl)] at l1
      refine lc_in ⟨_, rfl, ba, _, 3, _, rfl, rfl, .of (s7 _ _ ea), atI_nat (j := 3) rfl, g0, rfl, ⟨_, .of (s7 _ _ eg)⟩, ?_⟩
      refine lc_tup (K := K) (xs := b.bdg) (f := bdgD) (p := fun _ => true) (gd := fun g => .str g.1) (s7 _ _ eg) (tg.tk (Same.tk s7)) (by omega) (fun s x2 H1 N1 N0 hs sm dx n1 n0 => ⟨wiped, ?_⟩) fun H8 D2 s8 nD2 l2 => ?_
      · obtain ⟨pa, us', rfl, ep, t'⟩ := dx.tup'
        obtain ⟨_, _, rfl, d1, t'⟩ := t'.cons'
        have := d1.str'
        subst this
        dsimp only [tYes]
        rw [if_pos rfl]
        exact ⟨_, gOwn (Nat.lt_of_sub_eq_succ rfl), pa, _, 0, _, rfl, rfl, .of ep, atI_nat (j := 0) rfl, n1 _ _ (Same.refl _) rfl (.str _)⟩
      rw [List.filter_eq_self.mpr (fun _ _ => rfl)] at l2
      have m1 : (b.secs.map fun s => PyData.str s.nm) = (b.secs.map fun s => s.nm).map .str := by rw [List.map_map]; rfl
      have m2 : (b.bdg.map fun g => PyData.str g.1) = (b.bdg.map fun g => g.1).map .str := by rw [List.map_map]; rfl
      rw [m1] at l1
      rw [m2] at l2
      have e1 := s8 _ _ l1.strs
      have e2 := l2.strs
      refine ⟨D1, D2, _, _, rfl, rfl, .of e1, .of e2, Nat.le_of_lt (len20k (by simp only [List.length_map]; omega)), fun p np => ?_⟩
      obtain ⟨sp, ep⟩ := nxo (o := .lst ((b.secs.map fun s => s.nm).map V.str ++ (b.bdg.map fun g => g.1).map V.str)) np
      rw [← List.map_append] at sp ep ⊢
      have nmN : ∀ z ∈ (b.secs.map fun s => s.nm) ++ (b.bdg.map fun g => g.1), Nm z := by
        intro z hz
        rcases List.mem_append.mp hz with h | h
        · obtain ⟨s, hs, rfl⟩ := List.mem_map.mp h
          exact bok.nms s hs
        · obtain ⟨g, hg, rfl⟩ := List.mem_map.mp h
          exact (bok.bok g hg).nm
      have nmL : ((b.secs.map fun s => s.nm) ++ (b.bdg.map fun g => g.1)).length ≤ 14 := by
        rw [List.length_append, List.length_map, List.length_map]
        omega
      generalize (b.secs.map fun s => s.nm) ++ (b.bdg.map fun g => g.1) = nm0 at sp ep nmN nmL ⊢
      have sA := s7.trans (s8.trans sp)
      clear m1 m2 l1 l2 e1 e2
      refine cons_go (cB_go (cons_go ⟨_, rfl, ba, _, 1, _, rfl, rfl, .of (sA _ _ ea), atI_nat (j := 1) rfl, h0, _, rfl, .inr (.of (sA _ _ eh)), fun l nl => ⟨_, _, rfl, ?_⟩⟩))
      obtain ⟨sl, el⟩ := nxo (o := .lst (b.halts.map V.str)) nl
      have nl6 : H6 l = none := same_none sA nl
      have np6 : H6 p = none := same_none (s7.trans s8) np
      have pl' : p ≠ l := ne_none ep nl
      have sB := sA.trans sl
      have epB := sl _ _ ep
      generalize upd (upd H8 p (.lst (nm0.map V.str))) l (.lst (b.halts.map V.str)) = HB at sB epB el ⊢
      try dsimp only
      clear sl sp nl ep np sA
      refine ⟨_, rfl, ba, _, 0, _, rfl, rfl, .of (sB _ _ ea), atI_nat (j := 0) rfl, s0, rfl, ⟨_, .of (sB _ _ es)⟩, ?_⟩
      refine for_it (walk_tup (K := K) (a := s0) (xs := us)) (fun j σ H' => ∃ (z5 : Option V) (zs : List Str), σ = [some (.ref a), some (.ref d), some x, some (.ref ba), some (.str (bookD b).shown), z5, some (.ref p), some (.ref l), y8, y9, y10, none] ∧ Same H6 H' ∧ H' p = some (.lst (nm0.map V.str)) ∧ H' l = some (.lst (zs.map V.str)) ∧ zs.length ≤ 20 + 8 * j ∧ ∀ z ∈ zs, ∃ s ∈ b.secs, z ∈ s.ms) ⟨_, b.halts, rfl, sB, epB, el, by omega, bok.hsub⟩ (fun i σ H' _ pv => ?_) (fun j x5 σ Hc Hd hj pv y => ?_) (fun σ Hc pv => ?_)
      · obtain ⟨_, _, _, sm, _⟩ := pv
        exact .of (sm _ _ es)
      · obtain ⟨z5, zs, rfl, sm, epc, elc, zl, zm⟩ := pv
        obtain ⟨rfl, gx5⟩ := y
        have hul : us.length = b.secs.length := by rw [ts.len, List.length_map]
        obtain ⟨dd, gdd, d5⟩ := (ts.tk (Same.tk sm)).getV j x5 gx5
        rw [List.getElem?_map] at gdd
        obtain ⟨sk, gs, rfl⟩ := Option.map_eq_some_iff.mp gdd
        have skm := List.mem_of_getElem? gs
        have sfew := (pl sk skm).few
        obtain ⟨pa, pm, pt, ut, rfl, epa, epm, _⟩ := secD_inv d5
        refine gName_go ?_
        try dsimp only
        refine ⟨_, rfl, .inl ⟨rfl, _, .of elc⟩, _, rfl, pa, _, 1, _, rfl, rfl, .of epa, atI_nat (j := 1) rfl, l, pm, _, _, rfl, rfl, elc, .of epm, Nat.le_of_lt (len20k (by simp only [List.length_map]; omega)), ?_⟩
        refine ⟨_, zs ++ sk.ms, rfl, same_mut sm nl6, ?_, ?_, ?_, ?_⟩
        · rw [upd_ne pl']
          exact epc
        · rw [upd_same, List.map_append]
        · rw [List.length_append]
          omega
        · intro z hz
          rcases List.mem_append.mp hz with h | h
          · exact zm z h
          · exact ⟨sk, skm, h⟩
      · obtain ⟨z5, zs, rfl, sm, epc, elc, zl, zm⟩ := pv
        dsimp only
        have hul : us.length = b.secs.length := by rw [ts.len, List.length_map]
        have drc := dr6.same sm
        refine asgE_go (call_go ⟨_, rfl, d, 3, _, rfl, drc, by omega, by decide, fun o os HD no ol ond on drD kpD eo => ?_⟩)
        refine gName_go ?_
        try dsimp only
        have epD := kpD.lst drc epc
        have elD := kpD.lst drc elc
        have eaD := kpD.tup drc (sm _ _ ea)
        have esD := kpD.tup drc (sm _ _ es)
        have dvD := (dv.tk (Same.tk sm)).tk (kpD.tk drc)
        have tsD := (ts.tk (Same.tk sm)).tk (kpD.tk drc)
        rw [hul] at zl
        refine par_go ⟨_, rfl, _, rfl, p, o, _, _, rfl, rfl, .of epD, .of eo, Nat.le_of_lt (len20k (by simp only [List.length_map]; omega)), fun p1 np1 => ?_⟩
        obtain ⟨s1, e1⟩ := nxo (o := .lst (nm0.map V.str ++ os.map V.str)) np1
        generalize upd HD p1 (.lst (nm0.map V.str ++ os.map V.str)) = G1 at s1 e1 ⊢
        refine ⟨_, rfl, 2, rfl, l, _, rfl, .of (s1 _ _ elD), fun p2 np2 => ?_⟩
        obtain ⟨s2, e2⟩ := nxo (o := .lst (cutV (zs.map V.str) none (some 2))) np2
        generalize upd G1 p2 (.lst (cutV (zs.map V.str) none (some 2))) = G2 at s2 e2 ⊢
        have cl := cutV_length (zs.map V.str) none (some 2)
        rw [List.length_map] at cl
        refine ⟨p1, p2, _, _, rfl, rfl, .of (s2 _ _ e1), .of e2, Nat.le_of_lt (len20k (by simp only [List.length_map, List.length_append]; omega)), fun p3 np3 => ?_⟩
        obtain ⟨s3, e3⟩ := nxo (o := .lst (nm0.map V.str ++ os.map V.str ++ cutV (zs.map V.str) none (some 2))) np3
        generalize upd G2 p3 (.lst (nm0.map V.str ++ os.map V.str ++ cutV (zs.map V.str) none (some 2))) = G3 at s3 e3 ⊢
        refine ⟨(by show 1 ≤ sizeLine; decide), fun t nt => ?_⟩
        obtain ⟨s4, e4⟩ := nxo (o := .tup [.str "a"]) nt
        generalize upd G3 t (.tup [.str "a"]) = G4 at s4 e4 ⊢
        refine ⟨(by show 1 ≤ sizeLine; decide), fun u nu => ?_⟩
        obtain ⟨s5, e5⟩ := nxo (o := .lst [.str "a"]) nu
        generalize upd G4 u (.lst [.str "a"]) = G5 at s5 e5 ⊢
        refine ⟨(by show 4 ≤ sizeLine; decide), fun w' nw => ?_⟩
        obtain ⟨s6, e6⟩ := nxo (o := .lst [.non, .int 5, .ref t, .ref u]) nw
        generalize upd G5 w' (.lst [.non, .int 5, .ref t, .ref u]) = G6 at s6 e6 ⊢
        have s36 := s4.trans (s5.trans s6)
        refine ⟨p3, w', _, _, rfl, rfl, .of (s36 _ _ e3), .of e6, Nat.le_of_lt (len20k (by simp only [List.length_map, List.length_append, List.length_cons, List.length_nil]; omega)), fun p4 np4 => ?_⟩
        obtain ⟨xs, hxs⟩ : ∃ xs : List V, xs = nm0.map V.str ++ os.map V.str ++ cutV (zs.map V.str) none (some 2) ++ [.non, .int 5, .ref t, .ref u] := ⟨_, rfl⟩
        rw [← hxs]
        have hpx : ∀ x ∈ xs, PX t u x := by
          intro x hx
          rw [hxs] at hx
          rcases List.mem_append.mp hx with h | h
          · rcases List.mem_append.mp h with h | h
            · rcases List.mem_append.mp h with h | h
              · obtain ⟨z, hz, rfl⟩ := List.mem_map.mp h
                exact .inl ⟨z, rfl, nmN z hz⟩
              · obtain ⟨z, hz, rfl⟩ := List.mem_map.mp h
                exact .inl ⟨z, rfl, on z hz⟩
            · obtain ⟨z, hz, rfl⟩ := List.mem_map.mp (cut_mem h)
              obtain ⟨s, hs, hm⟩ := zm z hz
              exact .inl ⟨z, rfl, (pl s hs).ms z hm⟩
          · rcases List.mem_cons.mp h with rfl | h
            · exact .inr (.inl rfl)
            rcases List.mem_cons.mp h with rfl | h
            · exact .inr (.inr (.inl rfl))
            rcases List.mem_cons.mp h with rfl | h
            · exact .inr (.inr (.inr (.inl rfl)))
            · rw [List.mem_singleton.mp h]
              exact .inr (.inr (.inr (.inr rfl)))
        have hxl : 1 ≤ xs.length ∧ xs.length ≤ 200 := by
          rw [hxs]
          simp only [List.length_map, List.length_append, List.length_cons, List.length_nil]
          omega
        clear hxs
        obtain ⟨s7, e7⟩ := nxo (o := .lst xs) np4
        generalize upd G6 p4 (.lst xs) = G7 at s7 e7 ⊢
        have s17 := s1.trans (s2.trans (s3.trans (s36.trans s7)))
        refine ⟨_, rfl, _, rfl, l, o, _, _, rfl, rfl, .of (s17 _ _ elD), .of (s17 _ _ eo), Nat.le_of_lt (len20k (by simp only [List.length_map]; omega)), fun p5 np5 => ⟨_, _, rfl, ?_⟩⟩
        rw [← List.map_append]
        obtain ⟨s8, e8⟩ := nxo (o := .lst ((zs ++ os).map V.str)) np5
        generalize upd G7 p5 (.lst ((zs ++ os).map V.str)) = G8 at s8 e8 ⊢
        have s18 := s17.trans s8
        have dr8 := drD.same s18
        have e7' := s8 _ _ e7
        have et8 := s8 _ _ (s7 _ _ (s6 _ _ (s5 _ _ e4)))
        have eu8 := s8 _ _ (s7 _ _ (s6 _ _ e5))
        have eo8 := s18 _ _ eo
        have ea8 := s18 _ _ eaD
        have es8 := s18 _ _ esD
        have dv8 := dvD.tk (Same.tk s18)
        have ts8 := tsD.tk (Same.tk s18)
        clear s1 s2 s3 s4 s5 s6 s7 s8 s17 s18 s36 e1 e2 e3 e4 e5 e6 e7 cl
        try dsimp only
        refine asgE_go (call_go ⟨_, rfl, _, rfl, p4, _, rfl, .inl (.of e7'), d, _, _, rfl, dr8, by omega, by omega, by omega, fun at' G9 at0 at1 dr9 b9 => ?_⟩)
        refine gName_go ?_
        try dsimp only
        have k9 := b9.kp
        have e7 := k9.lst dr8 e7'
        have e8' := k9.lst dr8 e8
        have et := k9.tup dr8 et8
        have eu := k9.lst dr8 eu8
        have eo9 := k9.lst dr8 eo8
        have ea9 := k9.tup dr8 ea8
        have es9 := k9.tup dr8 es8
        have dv9 := dv8.tk (k9.tk dr8)
        have ts9 := ts8.tk (k9.tk dr8)
        refine asgE_go (op_go ⟨_, rfl, _, rfl, _, rfl, p4, _, rfl, .of e7, fun q1 nq1 => ?_⟩)
        obtain ⟨s1, e1⟩ := nxo (o := .lst (cutV xs (some at') none)) nq1
        generalize upd G9 q1 (.lst (cutV xs (some at') none)) = F1 at s1 e1 ⊢
        refine ⟨_, rfl, _, rfl, _, rfl, p4, _, rfl, .of (s1 _ _ e7), fun q2 nq2 => ?_⟩
        obtain ⟨s2, e2⟩ := nxo (o := .lst (cutV xs none (some at'))) nq2
        generalize upd F1 q2 (.lst (cutV xs none (some at'))) = F2 at s2 e2 ⊢
        have c1 := cutV_length xs (some at') none
        have c2 := cutV_length xs none (some at')
        refine ⟨q1, q2, _, _, rfl, rfl, .of (s2 _ _ e1), .of e2, Nat.le_of_lt (len20k (by omega)), fun q3 nq3 => ?_⟩
        obtain ⟨s3, e3⟩ := nxo (o := .lst (cutV xs (some at') none ++ cutV xs none (some at'))) nq3
        have hpx2 : ∀ x ∈ cutV xs (some at') none ++ cutV xs none (some at'), PX t u x := fun x hx => by
          rcases List.mem_append.mp hx with h | h
          · exact hpx x (cut_mem h)
          · exact hpx x (cut_mem h)
        generalize cutV xs (some at') none ++ cutV xs none (some at') = ws at hpx2 e3 s3 ⊢
        generalize upd F2 q3 (.lst ws) = F3 at s3 e3 ⊢
        have sF := s1.trans (s2.trans s3)
        refine gName_go ?_
        try dsimp only
        obtain ⟨ys, yn, yl, yok⟩ := bok.pool
        have dom : ∀ z ∈ zs ++ os, z ∈ ys ++ os := fun z hz => by
          rcases List.mem_append.mp hz with h | h
          · obtain ⟨s, hs, hm⟩ := zm z h
            exact List.mem_append_left _ ((yok s hs).ms.sub z hm)
          · exact List.mem_append_right _ h
        refine ⟨2, rfl, by decide, by decide, ?_⟩
        refine for_it (walk_range (lo := 0) (n := 2)) (fun j σ H' => ∃ (z10 : Option V) (q : Addr) (ws : List V), σ = [some (.ref a), some (.ref d), some x, some (.ref ba), some (.str (bookD b).shown), z5, some (.ref q), some (.ref p5), some (.ref o), some (.int at'), z10, none] ∧ Same G9 H' ∧ H' q = some (.lst ws) ∧ ∀ x ∈ ws, PX t u x) ⟨_, q3, ws, rfl, sF, e3, hpx2⟩ (fun _ _ _ _ _ => trivial) (fun j x5 σ Hc' Hd hj pv y => ?_) (fun σ Hc' pv => ?_)
        · obtain ⟨z10, q, ws, rfl, sm9, eq, hpx3⟩ := pv
          obtain ⟨rfl, gx5⟩ := y
          refine gName_go ?_
          try dsimp only
          refine ifS_go ⟨_, rfl, _, rfl, .ref ba, q, b, ws, rfl, dv9.tk (Same.tk sm9), bok, eq, fun x hx => px_ns (sm9 _ _ et) (sm9 _ _ eu) (hpx3 x hx), fun K1 t1 => ⟨true, rfl, iteF ?_⟩⟩
          have t91 := sm9.trans t1
          refine ⟨_, rfl, _, rfl, p5, zs ++ os, ys ++ os, rfl, .of (t91 _ _ e8'), (by rw [List.length_append]; omega), (by rw [List.length_append]; omega), dom, fun zs' p6 nd6 so6 mem6 np6 => ?_⟩
          obtain ⟨t2, f2⟩ := nxo (o := .lst (zs'.map V.str)) np6
          generalize upd K1 p6 (.lst (zs'.map V.str)) = K2 at t2 f2 ⊢
          have t92 := t91.trans t2
          refine ⟨.ref ba, p6, b, zs', rfl, dv9.tk (Same.tk t92), bok, f2, fun K3 t3 => ⟨true, rfl, iteF ?_⟩⟩
          have t93 := t92.trans t3
          dsimp only [tNext]
          refine ifS_go ⟨_, rfl, _, rfl, ba, _, 0, _, rfl, rfl, .of (t93 _ _ ea9), atI_nat (j := 0) rfl, s0, _, rfl, .inr (.of (t93 _ _ es9)), fun l3 nl3 => ?_⟩
          obtain ⟨t4, f4⟩ := nxo (o := .lst us) nl3
          generalize upd K3 l3 (.lst us) = K4 at t4 f4 ⊢
          have t94 := t93.trans t4
          refine ⟨_, rfl, .ref ba, l3, o, b, us, os, rfl, dv9.tk (Same.tk t94), bok, f4, ts9.tk (Same.tk t94), t94 _ _ eo9, by omega, on, fun K5 t5 => ⟨true, rfl, iteF ?_⟩⟩
          have t95 := t94.trans t5
          refine ⟨_, rfl, .ref ba, _, 3000, 5, rfl, (dv9.tk (Same.tk t95)).dp, book_sm bok, by decide, by decide, _, rfl, rfl, _, rfl, ?_⟩
          rw [decide_eq_true rfl]
          refine iteF ?_
          dsimp only [tNext]
          have eq5 := t5 _ _ (t4 _ _ (t3 _ _ (t2 _ _ (t1 _ _ eq))))
          refine asgE_go ⟨_, rfl, q, _, rfl, .of eq5, fun q' nq' => ?_⟩
          obtain ⟨t6, f6⟩ := nxo (o := .lst ws.reverse) nq'
          refine gName_go ?_
          try dsimp only
          exact ⟨_, q', ws.reverse, rfl, t95.trans t6, f6, fun x hx => hpx3 x (List.mem_reverse.mp hx)⟩
        · obtain ⟨z10, q, ws, rfl, sm9, _⟩ := pv
          refine ⟨_, _, _, _, _, _, _, _, _, rfl, ?_⟩
          exact (dr9.same sm9).mono (by omega)
    · obtain ⟨_, _, _, _, _, _, _, _, _, rfl, _⟩ := pv
      exact q _
end
end Pb

namespace Pb
open PySem PySem.Spec PyProof.Rows L2
/-! ### the head: what the top has written -/
def dfn : List He.DefD := [⟨("is_name", none), "is_name", "is_name", defArgs s_is_name, defBody s_is_name, defScope s_is_name, [], []⟩, ⟨("ways_of", none), "ways_of", "ways_of", defArgs s_ways_of, defBody s_ways_of, defScope s_ways_of, [], []⟩, ⟨("pieces_of", none), "pieces_of", "pieces_of", defArgs s_pieces_of, defBody s_pieces_of, defScope s_pieces_of, [], []⟩, ⟨("whole_of", none), "whole_of", "whole_of", defArgs s_whole_of, defBody s_whole_of, defScope s_whole_of, [], []⟩, ⟨("section_of", none), "section_of", "section_of", defArgs s_section_of, defBody s_section_of, defScope s_section_of, [], []⟩, ⟨("numbers_of", none), "numbers_of", "numbers_of", defArgs s_numbers_of, defBody s_numbers_of, defScope s_numbers_of, [], []⟩, ⟨("besides_of", none), "besides_of", "besides_of", defArgs s_besides_of, defBody s_besides_of, defScope s_besides_of, [], []⟩, ⟨("badge_of", none), "badge_of", "badge_of", defArgs s_badge_of, defBody s_badge_of, defScope s_badge_of, [], []⟩, ⟨("stretch_at", none), "stretch_at", "stretch_at", defArgs s_stretch_at, defBody s_stretch_at, defScope s_stretch_at, [], []⟩, ⟨("_law_begin", none), "_law_begin", "_law_begin", defArgs sBegin, defBody sBegin, defScope sBegin, [], []⟩, ⟨("_law_mixed", none), "_law_mixed", "_law_mixed", defArgs sMixed, defBody sMixed, defScope sMixed, [], []⟩, ⟨("_law_next", none), "_law_next", "_law_next", defArgs sNext, defBody sNext, defScope sNext, [], []⟩, ⟨("_law_names", none), "_law_names", "_law_names", defArgs s_l_names, defBody s_l_names, defScope s_l_names, [], []⟩, ⟨("_law_stretch", none), "_law_stretch", "_law_stretch", defArgs s_l_stretch, defBody s_l_stretch, defScope s_l_stretch, [], []⟩, ⟨("_law_marks", none), "_law_marks", "_law_marks", defArgs s_l_marks, defBody s_l_marks, defScope s_l_marks, [], []⟩, ⟨("_law_section", none), "_law_section", "_law_section", defArgs s_l_section, defBody s_l_section, defScope s_l_section, [], []⟩, ⟨("_law_picked", none), "_law_picked", "_law_picked", defArgs s_l_picked, defBody s_l_picked, defScope s_l_picked, [], []⟩, ⟨("_law_besides", none), "_law_besides", "_law_besides", defArgs s_l_besides, defBody s_l_besides, defScope s_l_besides, [], []⟩, ⟨("_law_book", none), "_law_book", "_law_book", defArgs s_l_book, defBody s_l_book, defScope s_l_book, [], []⟩, ⟨("_law_pieces", none), "_law_pieces", "_law_pieces", defArgs s_l_pieces, defBody s_l_pieces, defScope s_l_pieces, [], []⟩, ⟨("_law_whole", none), "_law_whole", "_law_whole", defArgs s_l_whole, defBody s_l_whole, defScope s_l_whole, [], []⟩, ⟨("_law_numbers", none), "_law_numbers", "_law_numbers", defArgs s_l_numbers, defBody s_l_numbers, defScope s_l_numbers, [], []⟩, ⟨("_law_beside", none), "_law_beside", "_law_beside", defArgs s_l_beside, defBody s_l_beside, defScope s_l_beside, [], []⟩, ⟨("_law_badge", none), "_law_badge", "_law_badge", defArgs s_l_badge, defBody s_l_badge, defScope s_l_badge, [], []⟩, ⟨("_law_told", none), "_law_told", "_law_told", defArgs s_l_told, defBody s_l_told, defScope s_l_told, [], []⟩, ⟨("_law_section_due", none), "_law_section_due", "_law_section_due", defArgs s_l_section_due, defBody s_l_section_due, defScope s_l_section_due, [], []⟩, ⟨("_law_by_names", none), "_law_by_names", "_law_by_names", defArgs s_l_by_names, defBody s_l_by_names, defScope s_l_by_names, [], []⟩, ⟨("_law_by_marks", none), "_law_by_marks", "_law_by_marks", defArgs s_l_by_marks, defBody s_l_by_marks, defScope s_l_by_marks, [], []⟩, ⟨("_law_where", none), "_law_where", "_law_where", defArgs s_l_where, defBody s_l_where, defScope s_l_where, [], []⟩, ⟨("_law_by_sections", none), "_law_by_sections", "_law_by_sections", defArgs s_l_by_sections, defBody s_l_by_sections, defScope s_l_by_sections, [], []⟩, ⟨("law", none), "law", "law", defArgs s_law, defBody s_law, defScope s_law, [], []⟩, ⟨("NoSection", some "__init__"), "__init__", "NoSection.__init__", defArgs (sIni 3), defBody (sIni 3), defScope (sIni 3), [], []⟩]
def gls0 : List Str := ["is_name", "ways_of", "pieces_of", "whole_of", "section_of", "numbers_of", "besides_of", "badge_of", "stretch_at", "_law_begin", "_law_mixed", "_law_next"]
def gls1 : List Str := ["_law_names", "_law_stretch", "_law_marks", "_law_section", "_law_picked", "_law_besides", "_law_book", "_law_pieces", "_law_whole", "_law_numbers", "_law_beside", "_law_badge"]
def gls2 : List Str := ["_law_told", "_law_section_due", "_law_by_names", "_law_by_marks", "_law_where", "_law_by_sections", "law", "NotThere", "NoBook", "NoSection", "NotTold"]
def gls : List Str := gls0 ++ (gls1 ++ (gls2))
def frs0 : List Str := ["len", "range", "tuple", "list", "sum", "min", "max", "repr", "sorted", "set", "isinstance", "enumerate"]
def frs1 : List Str := ["zip", "str", "int", "all"]
def frs : List Str := frs0 ++ (frs1)
def iS (K : PySem.W.Frag) : Addr := He.ma K (cS K) "__init__"
def ckG (K : PySem.W.Frag) : Bool := gls.all fun x => gloB x K
def ckF (K : PySem.W.Frag) : Bool := frs.all fun x => freeB x K
def ckV (K : PySem.W.Frag) : Bool := (He.Fa.str "LETTERS" ltr).ok K && (He.Fa.int "LONGEST_NAME" 8).ok K
def ckX (K : PySem.W.Frag) : Bool := xcB K (cS K) mroL "LookupError.__new__" && (decide (PySem.W.findIn K (.ref (cS K)) "name" = some none) && (decide (PySem.W.findIn K (.ref (cS K)) "__init__" = some (some (.ref (iS K)))) && decide (PySem.W.typeIn K (.ref (iS K)) = some (.type "function"))))
def ckY (K : PySem.W.Frag) : Bool := decide (PySem.W.exmOne K (.ref (cS K)) (.ref (He.ga K "NotThere")) = some true) && (decide (PySem.W.kitAny K (.ref (cS K)) [.ref (He.ga K "NoBook"), .ref (He.ga K "NotTold")] = some false) && decide (PySem.W.kitOne K (.ref (cS K)) (.ref (cS K)) = some true))
def cks : List (PySem.W.Frag → Bool) := [ckG, ckF, ckV, ckX, ckY]
section
variable {P : Program} {w : World} {K : PySem.W.Frag} {h base : Heap} {mg : Str → Option Value}
theorem fr_ok (X : K.In h) (G : h.Ns mainGlobals mg) (c : SaysX cks dfn K) : ∀ x ∈ frs, mg x = none := fun x hx => He.free_ok X G (List.all_eq_true.mp (c.fact 1 (f := ckF)) x hx)
theorem gl_ok (X : K.In h) (G : h.Ns mainGlobals mg) (c : SaysX cks dfn K) : ∀ x ∈ gls, mg x = some (.ref (He.ga K x)) := fun x hx => He.glo_ok X G (List.all_eq_true.mp (c.fact 0 (f := ckG)) x hx)
theorem mkBG (X : K.In h) (G : h.Ns mainGlobals mg) (c : SaysX cks dfn K) : BG mg := by
  have fr := fr_ok X G c
  exact { len := fr _ (by decide +kernel), range := fr _ (by decide +kernel), tuple := fr _ (by decide +kernel), list := fr _ (by decide +kernel), sum := fr _ (by decide +kernel), min := fr _ (by decide +kernel), max := fr _ (by decide +kernel), repr := fr _ (by decide +kernel), sorted := fr _ (by decide +kernel), set := fr _ (by decide +kernel), isinstance := fr _ (by decide +kernel), enumerate := fr _ (by decide +kernel), zip := fr _ (by decide +kernel), str := fr _ (by decide +kernel), int := fr _ (by decide +kernel), all := fr _ (by decide +kernel) }
theorem mkXS (X : K.In h) (G : h.Ns mainGlobals mg) (c : SaysX cks dfn K) : XS K mg := by
  have gl := gl_ok X G c
  have cX := c.fact 3 (f := ckX)
  have cY := c.fact 4 (f := ckY)
  unfold ckX at cX
  unfold ckY at cY
  simp only [Bool.and_eq_true, decide_eq_true_eq] at cX cY
  obtain ⟨x1, x2, x3, x4⟩ := cX
  obtain ⟨y1, y2, y3⟩ := cY
  obtain ⟨fd, F⟩ := c.def_ 31 (d := ⟨("NoSection", some "__init__"), "__init__", "NoSection.__init__", defArgs (sIni 3), defBody (sIni 3), defScope (sIni 3), [], []⟩)
  exact { gS := gl _ (by decide +kernel), gB := gl _ (by decide +kernel), gT := gl _ (by decide +kernel), gN := gl _ (by decide +kernel), tS := xcB_ok x1, fld := x2, ini := ⟨iS K, fd, x3, x4, F⟩, mN := y1, oS := y2, ss := y3 }
theorem mkLaw {f : Addr} {fd : FuncData} (F : FnD K "law" s_law [] f fd) (X : K.In h) (G : h.Ns mainGlobals mg) (c : SaysX cks dfn K) : FnG P w K mg base CX0 7 f fd p_law (spLaw K) := by
  have gl := gl_ok X G c
  have B := mkBG X G c
  have C := mkXS X G c
  have cV := c.fact 2 (f := ckV)
  unfold ckV at cV
  simp only [Bool.and_eq_true] at cV
  obtain ⟨v1, v2⟩ := cV
  obtain ⟨t1, gL⟩ := He.str_ok X G v1
  obtain ⟨t2, gN⟩ := He.int_ok X G v2
  have df : ∀ (i : Nat) {d : He.DefD}, dfn[i]? = some d → ∃ fd, FunD K d.name d.qual d.params d.body d.scope (d.dvs K) (d.kws K) (He.fAd K d.at_) fd := fun i {d} e => c.def_ i e
  have D8 : Df K mg "is_name" s_is_name := (df 0 rfl).elim fun fd F => ⟨He.ga K "is_name", fd, F, gl _ (by decide +kernel)⟩
  have D10 : Df K mg "ways_of" s_ways_of := (df 1 rfl).elim fun fd F => ⟨He.ga K "ways_of", fd, F, gl _ (by decide +kernel)⟩
  have D11 : Df K mg "pieces_of" s_pieces_of := (df 2 rfl).elim fun fd F => ⟨He.ga K "pieces_of", fd, F, gl _ (by decide +kernel)⟩
  have D12 : Df K mg "whole_of" s_whole_of := (df 3 rfl).elim fun fd F => ⟨He.ga K "whole_of", fd, F, gl _ (by decide +kernel)⟩
  have D13 : Df K mg "section_of" s_section_of := (df 4 rfl).elim fun fd F => ⟨He.ga K "section_of", fd, F, gl _ (by decide +kernel)⟩
  have D14 : Df K mg "numbers_of" s_numbers_of := (df 5 rfl).elim fun fd F => ⟨He.ga K "numbers_of", fd, F, gl _ (by decide +kernel)⟩
  have D15 : Df K mg "besides_of" s_besides_of := (df 6 rfl).elim fun fd F => ⟨He.ga K "besides_of", fd, F, gl _ (by decide +kernel)⟩
  have D16 : Df K mg "badge_of" s_badge_of := (df 7 rfl).elim fun fd F => ⟨He.ga K "badge_of", fd, F, gl _ (by decide +kernel)⟩
  have D17 : Df K mg "stretch_at" s_stretch_at := (df 8 rfl).elim fun fd F => ⟨He.ga K "stretch_at", fd, F, gl _ (by decide +kernel)⟩
  have D19 : Df K mg "_law_begin" sBegin := (df 9 rfl).elim fun fd F => ⟨He.ga K "_law_begin", fd, F, gl _ (by decide +kernel)⟩
  have D20 : Df K mg "_law_mixed" sMixed := (df 10 rfl).elim fun fd F => ⟨He.ga K "_law_mixed", fd, F, gl _ (by decide +kernel)⟩
  have D21 : Df K mg "_law_next" sNext := (df 11 rfl).elim fun fd F => ⟨He.ga K "_law_next", fd, F, gl _ (by decide +kernel)⟩
  have D22 : Df K mg "_law_names" s_l_names := (df 12 rfl).elim fun fd F => ⟨He.ga K "_law_names", fd, F, gl _ (by decide +kernel)⟩
  have D23 : Df K mg "_law_stretch" s_l_stretch := (df 13 rfl).elim fun fd F => ⟨He.ga K "_law_stretch", fd, F, gl _ (by decide +kernel)⟩
  have D24 : Df K mg "_law_marks" s_l_marks := (df 14 rfl).elim fun fd F => ⟨He.ga K "_law_marks", fd, F, gl _ (by decide +kernel)⟩
  have D25 : Df K mg "_law_section" s_l_section := (df 15 rfl).elim fun fd F => ⟨He.ga K "_law_section", fd, F, gl _ (by decide +kernel)⟩
  have D26 : Df K mg "_law_picked" s_l_picked := (df 16 rfl).elim fun fd F => ⟨He.ga K "_law_picked", fd, F, gl _ (by decide +kernel)⟩
  have D27 : Df K mg "_law_besides" s_l_besides := (df 17 rfl).elim fun fd F => ⟨He.ga K "_law_besides", fd, F, gl _ (by decide +kernel)⟩
  have D28 : Df K mg "_law_book" s_l_book := (df 18 rfl).elim fun fd F => ⟨He.ga K "_law_book", fd, F, gl _ (by decide +kernel)⟩
  have D29 : Df K mg "_law_pieces" s_l_pieces := (df 19 rfl).elim fun fd F => ⟨He.ga K "_law_pieces", fd, F, gl _ (by decide +kernel)⟩
  have D30 : Df K mg "_law_whole" s_l_whole := (df 20 rfl).elim fun fd F => ⟨He.ga K "_law_whole", fd, F, gl _ (by decide +kernel)⟩
  have D31 : Df K mg "_law_numbers" s_l_numbers := (df 21 rfl).elim fun fd F => ⟨He.ga K "_law_numbers", fd, F, gl _ (by decide +kernel)⟩
  have D32 : Df K mg "_law_beside" s_l_beside := (df 22 rfl).elim fun fd F => ⟨He.ga K "_law_beside", fd, F, gl _ (by decide +kernel)⟩
  have D33 : Df K mg "_law_badge" s_l_badge := (df 23 rfl).elim fun fd F => ⟨He.ga K "_law_badge", fd, F, gl _ (by decide +kernel)⟩
  have D34 : Df K mg "_law_told" s_l_told := (df 24 rfl).elim fun fd F => ⟨He.ga K "_law_told", fd, F, gl _ (by decide +kernel)⟩
  have D35 : Df K mg "_law_section_due" s_l_section_due := (df 25 rfl).elim fun fd F => ⟨He.ga K "_law_section_due", fd, F, gl _ (by decide +kernel)⟩
  have D36 : Df K mg "_law_by_names" s_l_by_names := (df 26 rfl).elim fun fd F => ⟨He.ga K "_law_by_names", fd, F, gl _ (by decide +kernel)⟩
  have D37 : Df K mg "_law_by_marks" s_l_by_marks := (df 27 rfl).elim fun fd F => ⟨He.ga K "_law_by_marks", fd, F, gl _ (by decide +kernel)⟩
  have D38 : Df K mg "_law_where" s_l_where := (df 28 rfl).elim fun fd F => ⟨He.ga K "_law_where", fd, F, gl _ (by decide +kernel)⟩
  have D39 : Df K mg "_law_by_sections" s_l_by_sections := (df 29 rfl).elim fun fd F => ⟨He.ga K "_law_by_sections", fd, F, gl _ (by decide +kernel)⟩
  have D40 : Df K mg "law" s_law := (df 30 rfl).elim fun fd F => ⟨He.ga K "law", fd, F, gl _ (by decide +kernel)⟩
  have kB := kn_begin (P := P) (w := w) (base := base) D19
  have kNx := kn_next (P := P) (w := w) (base := base) D21 D20 B
  have kNm := kn_names D22 B kNx
  have kSt := kn_stretch D23 B kNx
  have kMk := kn_marks D24 B kNx
  have kSe := kn_section D25 B kNx kMk kSt
  have kPi := kn_picked D26 B kNx
  have kBe := kn_besides D27 B kNx
  have kBk := kn_book D28 B kNx kNm kSe kPi kBe
  have kWy := kn_ways (P := P) (w := w) (base := base) D10 B
  have kPc := kn_pieces D11 B kWy
  have kWh := kn_whole (P := P) (w := w) (base := base) D12 B
  have kLp := kn_lpieces (P := P) (w := w) (base := base) D29 B
  have kLw := kn_lwhole (P := P) (w := w) (base := base) D30 B
  have kNu := kn_numbers (P := P) (w := w) (base := base) D14 B
  have kLn := kn_lnumbers (P := P) (w := w) (base := base) D31 B
  have kBd := kn_badge (P := P) (w := w) (base := base) D16 B
  have kLb := kn_lbadge (P := P) (w := w) (base := base) D33 B
  have kSa := kn_stretchAt D17 B kPc
  have kLe := kn_lwhere D38 B kLp
  have kIn := kn_isName (P := P) (w := w) (base := base) D8 B gL gN
  have kSo := kn_sectionOf D13 B C kIn
  have kBo := kn_besidesOf D15 B C kSo
  have kTo := kn_told D34 B C kSo kBo
  have kSd := kn_secDue (P := P) (w := w) (base := base) D35 B
  have kLd := kn_lbeside (P := P) (w := w) (base := base) D32 B
  have kBn := kn_byNames D36 B kTo kSd kLd kBd kLb
  have kBm := kn_byMarks D37 B kNu kLn
  have kBs := kn_bySections D39 B kPc kLp kWh kLw kSa kLe
  exact okG_law F B kB kNx kBk kNm kBn kBm kBs
theorem facts {f : Addr} (X : K.In h) (G : h.Ns mainGlobals mg) (hfa : mg ("law" : Str) = some (.ref f)) (c : SaysX cks dfn K) :
    ∃ fd : FuncData, (∀ (s : Shared) (u : Value), BindsTo s fd ⟨[u], []⟩ [("_law_script", u)]) ∧ ∀ base : Heap, K.In base → base.Ns mainGlobals mg → FnG P w K mg base CX0 7 f fd ["_law_script"] (spLaw K) := by
  obtain ⟨fd, F⟩ := c.def_ 30 (d := ⟨("law", none), "law", "law", defArgs s_law, defBody s_law, defScope s_law, [], []⟩)
  have e := hfa.symm.trans (gl_ok X G c "law" (by decide +kernel))
  cases e
  have b := FunD.bindsA (ps := ["_law_script"]) F fun _ _ _ _ _ _ us hl => match us, hl with | [_], _ => rfl
  exact ⟨fd, fun s v => b s [v] rfl, fun base _ _ => mkLaw F X G c⟩
end
abbrev RR : PySem.W.OpenRow := PySem.W.OpenLaw.row PySem.Challenge.rw_pathbook_k05_what_books_tell
abbrev hk : PySem.W.Hook := hookX 5 cks dfn
def ob (s : PySem.W.SharedT) : He.AlD := obsXG 5 cks dfn (HandSHeadRun.getT s)
theorem ob_eq (s : PySem.W.SharedT) : ob s = hk.obs s.abs := obsXG_eq (HandSHeadRun.getT_eq s)
def loose0 : List PySem.Str := ["NotThere", "NoBook", "NoSection", "NotTold", "LETTERS", "LONGEST_NAME", "is_name", "ways_of", "pieces_of", "whole_of", "section_of", "numbers_of"]
def loose1 : List PySem.Str := ["besides_of", "badge_of", "stretch_at", "_law_begin", "_law_mixed", "_law_next", "_law_names", "_law_stretch", "_law_marks", "_law_section", "_law_picked", "_law_besides"]
def loose2 : List PySem.Str := ["_law_book", "_law_pieces", "_law_whole", "_law_numbers", "_law_beside", "_law_badge", "_law_told", "_law_section_due", "_law_by_names", "_law_by_marks", "_law_where", "_law_by_sections"]
def loose : List PySem.Str := loose0 ++ (loose1 ++ (loose2))
theorem runs (w : World) : HandSHeadRun.RunEq RR (PySem.W.view RR.prog [40]) hk ob 4500 loose w := by
  intro os
  kernel_rfl
end Pb
open PySem PySem.W PySem.Calls PyProof.Rows
theorem PySem.Challenge.cw_pathbook_k05_what_books_tell_holds : PySem.Challenge.rw_pathbook_k05_what_books_tell.Holds := by
  w_on; o_law
  refine HandSHeadRun.head_any (r := OpenLaw.row PySem.Challenge.rw_pathbook_k05_what_books_tell) (q := view (OpenLaw.row PySem.Challenge.rw_pathbook_k05_what_books_tell).prog [40]) (H := Pb.hk) (ob := Pb.ob) (M := 4500) (loose := Pb.loose) (d := HandSHeadRun.topDef (OpenLaw.row PySem.Challenge.rw_pathbook_k05_what_books_tell).prog 40) (kwd := []) Pb.ob_eq
    (by kernel_rfl) (fun s => by kernel_rfl) Pb.runs (by kernel_rfl) (by kernel_rfl) (by kernel_rfl) (by rfl) (by first | assumption | decide +kernel) (by decide +kernel) ⟨rfl, rfl, rfl, rfl, rfl, by decide +kernel⟩ ?hw ?hc
  case hw => w_witness2
  case hc =>
    refine Pb.walkG (l := PySem.Challenge.rw_pathbook_k05_what_books_tell) (n := 63) (k := 7) (x := "_law_script") (CX := L2.CX0) rfl (by decide) (by kernel_rfl) ⟨rfl, by decide, by decide⟩ ?F (fun _ _ _ _ z => z)
    intro w mg fa h Y G hmg0
    obtain ⟨K, KX, c⟩ := Y
    have hmg : mg ("law" : PySem.Str) = some (.ref fa) := by
      have e : (HandSHeadRun.topDef (OpenLaw.row PySem.Challenge.rw_pathbook_k05_what_books_tell).prog 40).name = ("law" : PySem.Str) := by kernel_rfl
      rw [← e]
      exact hmg0
    obtain ⟨fd, hb, hF⟩ := Pb.facts (P := (PySem.Challenge.rw_pathbook_k05_what_books_tell).prog) (w := w) KX G hmg c
    exact ⟨K, fd, Pb.spLaw K, KX, hb, fun H a ns hl _ hS => ⟨a, ns, rfl, hS, hl, fun _ => rfl⟩, hF⟩
