import PyProof.Rows.All
import Wide.All
import OpenK.AllK
import Wide.FinOn
import HandS.ForMost
import HandS.More
import HandS.IsInst
import HandS.Evl
import HandS.TupAny
import PyProof.ReprRoads
import HandS.ExcValue
import HandS.ExcInit
import KE.KExcIs
import HandS.Strs
import HandS.SetFor
import HandS.SortInts
import HandS.Dict
import HandS.Zip
import HandS.Comp
import HandS.Star
import KE.LtData
import HandS.Conv
import HandS.Exc
import HandS.ExcOwn
import HandS.ExcIs
import HandS.TryOnly
import HandS.Deep
import HandS.Wide
import PyProof.Rows.RuleB_pow
import HandS.ExcField
import PyProof.StrOps2
import KE.GoesNew
import KE.GoesMore
import HandS.Walk
import KE.KStar
import HandS.WideBits
import KE.KUnpackStar
import KE.OsArith
import KE.IntBitsLaws
import HandS.Replace
import KE.KDictZip
import PySem.Challenge.RW_unknowncorners_k18_pictures_cell_by_cell
set_option Elab.async false
set_option linter.all false
set_option maxRecDepth 100000
set_option maxHeartbeats 4000000
namespace U
open PySem L2 Evl

/-! ### data -/
inductive Dt where
  | non | bl (b : Bool) | int (i : Int) | str (x : Str) | lst (xs : List Dt) | tup (xs : List Dt) | exc (C : Addr) | con (a : Addr)
/-- an error that is held as a value -/
def HasE (H : Hp) (a C : Addr) : Prop := H a = some (ExO (.ref C) a) ∨ ∃ (dx : Addr) (fs : List (Str × V)), H a = some (exo a C (some dx)) ∧ H dx = some (exd dx fs)
theorem HasE.mono {H H' : Hp} {a C : Addr} (e : Ex H H') : HasE H a C → HasE H' a C
  | .inl h => .inl (e _ _ h)
  | .inr ⟨dx, fs, h, k⟩ => .inr ⟨dx, fs, e _ _ h, e _ _ k⟩
mutual
inductive R (H : Hp) : V → Dt → Prop
  | non : R H .non .non
  | bl (b : Bool) : R H (.bl b) (.bl b)
  | int (i : Int) : R H (.int i) (.int i)
  | str (x : Str) : R H (.str x) (.str x)
  | lst {a : Addr} {xs : List V} {ds : List Dt} : H a = some (.lst xs) → RA H xs ds → R H (.ref a) (.lst ds)
  | tup {a : Addr} {xs : List V} {ds : List Dt} : H a = some (.tup xs) → RA H xs ds → R H (.ref a) (.tup ds)
  | exc {a C : Addr} : HasE H a C → R H (.ref a) (.exc C)
  /-- a constant of the written part -/
  | con (a : Addr) : R H (.ref a) (.con a)
inductive RA (H : Hp) : List V → List Dt → Prop
  | nil : RA H [] []
  | cons {v : V} {vs : List V} {d : Dt} {ds : List Dt} : R H v d → RA H vs ds → RA H (v :: vs) (d :: ds)
end
section
variable {H H' : Hp}
mutual
theorem R.mono (e : Ex H H') : ∀ {v : V} {d : Dt}, R H v d → R H' v d
  | _, _, .non => .non
  | _, _, .bl b => .bl b
  | _, _, .int i => .int i
  | _, _, .str x => .str x
  | _, _, .lst h k => .lst (e _ _ h) (RA.mono e k)
  | _, _, .tup h k => .tup (e _ _ h) (RA.mono e k)
  | _, _, .exc h => .exc (h.mono e)
  | _, _, .con a => .con a
theorem RA.mono (e : Ex H H') : ∀ {v : List V} {d : List Dt}, RA H v d → RA H' v d
  | _, _, .nil => .nil
  | _, _, .cons a b => .cons (R.mono e a) (RA.mono e b)
end
theorem R.lst_inv {v : V} {ds : List Dt} (h : R H v (.lst ds)) : ∃ a xs, v = .ref a ∧ H a = some (.lst xs) ∧ RA H xs ds := by
  cases h with | lst a b => exact ⟨_, _, rfl, a, b⟩
theorem R.tup_inv {v : V} {ds : List Dt} (h : R H v (.tup ds)) : ∃ a xs, v = .ref a ∧ H a = some (.tup xs) ∧ RA H xs ds := by
  cases h with | tup a b => exact ⟨_, _, rfl, a, b⟩
theorem R.int_inv {v : V} {i : Int} (h : R H v (.int i)) : v = .int i := by cases h; rfl
theorem R.bl_inv {v : V} {i : Bool} (h : R H v (.bl i)) : v = .bl i := by cases h; rfl
theorem R.str_inv {v : V} {i : Str} (h : R H v (.str i)) : v = .str i := by cases h; rfl
theorem R.non_inv {v : V} (h : R H v .non) : v = .non := by cases h; rfl
theorem RA.len : ∀ {vs : List V} {ds : List Dt}, RA H vs ds → vs.length = ds.length
  | _, _, .nil => rfl
  | _, _, .cons _ k => by rw [List.length_cons, List.length_cons, RA.len k]
theorem RA.get : ∀ {vs : List V} {ds : List Dt} {i : Nat} {d : Dt}, RA H vs ds → ds[i]? = some d → ∃ v, vs[i]? = some v ∧ R H v d
  | _, _, _, _, .nil, e => by simp at e
  | _, _, 0, d, .cons r _, e => by simp at e; subst e; exact ⟨_, rfl, r⟩
  | _, _, i + 1, d, .cons _ t, e => by
    obtain ⟨u, h1, h2⟩ := RA.get (i := i) (d := d) t (by simpa using e)
    exact ⟨u, by simpa using h1, h2⟩
theorem RA.getV : ∀ {vs : List V} {ds : List Dt} {i : Nat} {v : V}, RA H vs ds → vs[i]? = some v → ∃ d, ds[i]? = some d ∧ R H v d
  | _, _, _, _, .nil, e => by simp at e
  | _, _, 0, d, .cons r _, e => by simp at e; subst e; exact ⟨_, rfl, r⟩
  | _, _, i + 1, d, .cons _ t, e => by
    obtain ⟨u, h1, h2⟩ := RA.getV (i := i) (v := d) t (by simpa using e)
    exact ⟨u, by simpa using h1, h2⟩
theorem RA.append : ∀ {vs ws : List V} {ds es : List Dt}, RA H vs ds → RA H ws es → RA H (vs ++ ws) (ds ++ es)
  | _, _, _, _, .nil, k => k
  | _, _, _, _, .cons a b, k => .cons a (RA.append b k)
theorem RA.one {v : V} {d : Dt} (h : R H v d) : RA H [v] [d] := .cons h .nil
theorem RA.ints : ∀ (ns : List Int), RA H (ns.map V.int) (ns.map Dt.int)
  | [] => .nil
  | n :: ns => .cons (.int n) (RA.ints ns)
theorem RA.ints_inv : ∀ {ns : List Int} {vs : List V}, RA H vs (ns.map Dt.int) → vs = ns.map V.int
  | [], _, .nil => rfl
  | n :: ns, _, .cons a b => by rw [R.int_inv a, RA.ints_inv b]; rfl
theorem RA.bls_inv {α : Type} {p : α → Bool} : ∀ {ns : List α} {vs : List V}, RA H vs (ns.map fun a => Dt.bl (p a)) → vs = (ns.map p).map V.bl
  | [], _, .nil => rfl
  | n :: ns, _, .cons a b => by rw [R.bl_inv a, RA.bls_inv b]; rfl
theorem RA.intsf_inv {α : Type} {p : α → Int} : ∀ {ns : List α} {vs : List V}, RA H vs (ns.map fun a => Dt.int (p a)) → vs = (ns.map p).map V.int
  | [], _, .nil => rfl
  | n :: ns, _, .cons a b => by rw [R.int_inv a, RA.intsf_inv b]; rfl
end

/-! ### data that can be shown -/
mutual
def Dt.py : Dt → PyData
  | .non => .none
  | .bl b => .bool b
  | .int i => .int i
  | .str x => .str x
  | .lst xs => .list (pyAll xs)
  | .tup xs => .tuple (pyAll xs)
  | .exc _ | .con _ => .dict []
def pyAll : List Dt → List PyData
  | [] => []
  | x :: xs => Dt.py x :: pyAll xs
end
mutual
/-- no errors in it -/
def Dt.cln : Dt → Bool
  | .exc _ | .con _ => false
  | .lst xs | .tup xs => clnAll xs
  | _ => true
def clnAll : List Dt → Bool
  | [] => true
  | x :: xs => Dt.cln x && clnAll xs
end
section
variable {K : PySem.W.Frag} {H : Hp}
mutual
theorem R.dp : ∀ {v : V} {d : Dt}, R H v d → d.cln = true → Dp K H v d.py
  | _, _, .non, _ => by rw [Dt.py]; exact .non
  | _, _, .bl b, _ => by rw [Dt.py]; exact .bl b
  | _, _, .int b, _ => by rw [Dt.py]; exact .int b
  | _, _, .str b, _ => by rw [Dt.py]; exact .str b
  | _, _, .lst h k, c => by rw [Dt.py]; exact .lst (SqL.of h) (RA.dp k (by rw [Dt.cln] at c; exact c))
  | _, _, .tup h k, c => by rw [Dt.py]; exact .tup (SqT.of h) (RA.dp k (by rw [Dt.cln] at c; exact c))
  | _, _, .exc _, c => by simp [Dt.cln] at c
  | _, _, .con _, c => by simp [Dt.cln] at c
theorem RA.dp : ∀ {v : List V} {d : List Dt}, RA H v d → clnAll d = true → DpAll K H v (pyAll d)
  | _, _, .nil, _ => by rw [pyAll]; exact .nil
  | _, _, .cons a b, c => by
    rw [clnAll, Bool.and_eq_true] at c
    rw [pyAll]; exact .cons (R.dp a c.1) (RA.dp b c.2)
end
end

mutual
def Dt.fit : Dt → Bool
  | .non | .bl _ => true
  | .str x => x.cps.toList.all fun c => decide (c < 16 ^ 8)
  | .int i => decide (i.natAbs < 10 ^ 60)
  | .lst xs | .tup xs => fitAll xs
  | .exc _ | .con _ => false
def fitAll : List Dt → Bool
  | [] => true
  | x :: xs => Dt.fit x && fitAll xs
end
mutual
def Dt.wt : Dt → Nat
  | .non | .bl _ | .int _ | .exc _ | .con _ => 1
  | .str x => x.length + 1
  | .lst xs | .tup xs => wtAll xs + 1
def wtAll : List Dt → Nat
  | [] => 0
  | x :: xs => Dt.wt x + wtAll xs
end
mutual
def Dt.dep : Dt → Nat
  | .non | .bl _ | .int _ | .str _ => 0
  | .exc _ | .con _ => (PyData.dict []).depth
  | .lst xs | .tup xs => depAll xs + 1
def depAll : List Dt → Nat
  | [] => 0
  | x :: xs => max (Dt.dep x) (depAll xs)
end
theorem strip_int {i : Int} (h : i.natAbs < 10 ^ 60) : (PyData.shown (.int i)).length ≤ 61 := by
  have h2 := PySem.int_text_length_le10 (a := i) (k := 60) (by decide) h
  rw [PyData.shown]
  have e : ((toString i : Str)).length = (toString i : String).length := by
    exact PySem.ofString_length _
  omega
theorem log_60 {i : Int} (h : i.natAbs < 10 ^ 60) : i.natAbs.log2 < 1920 := by
  by_cases h0 : i.natAbs = 0
  · rw [h0]; decide
  · exact (Nat.log2_lt h0).mpr (Nat.lt_trans h (by decide))
mutual
theorem shown_sz : ∀ d : Dt, d.fit = true → d.py.shown.length ≤ 74 * d.wt - 2
  | .non, _ => by decide +kernel
  | .bl b, _ => by cases b <;> decide +kernel
  | .int i, h => by
    have := strip_int (i := i) (by simpa [Dt.fit] using h)
    rw [Dt.py, Dt.wt]; omega
  | .str x, h => by
    have h1 : ∀ c ∈ x.cps.toList, c < 16 ^ 8 := fun c hc => of_decide_eq_true (List.all_eq_true.mp (by rw [Dt.fit] at h; exact h) c hc)
    have h2 := StrLaws.reprText_len x h1
    rw [Dt.py, Dt.wt, PyData.shown]; omega
  | .lst xs, h => by
    have h1 := shownAll_sz xs (by simpa [Dt.fit] using h)
    have h2 := listText_len_le (PyData.shownAll (pyAll xs))
    rw [Dt.py, Dt.wt, PyData.shown]
    omega
  | .tup xs, h => by
    have h1 := shownAll_sz xs (by simpa [Dt.fit] using h)
    have h2 := tupleText_len_le (PyData.shownAll (pyAll xs))
    rw [Dt.py, Dt.wt, PyData.shown]
    omega
  | .exc _, h => by simp [Dt.fit] at h
  | .con _, h => by simp [Dt.fit] at h
theorem shownAll_sz : ∀ xs : List Dt, fitAll xs = true → ((PyData.shownAll (pyAll xs)).map (·.length)).sum + 2 * (PyData.shownAll (pyAll xs)).length ≤ 74 * wtAll xs
  | [], _ => by simp [pyAll, PyData.shownAll]
  | x :: xs, h => by
    have h' : x.fit = true ∧ fitAll xs = true := by simpa [fitAll] using h
    have h1 := shown_sz x h'.1
    have h2 := shownAll_sz xs h'.2
    rw [pyAll, PyData.shownAll, wtAll, List.map_cons, List.sum_cons, List.length_cons]
    have h3 : 1 ≤ x.wt := by cases x <;> simp [Dt.wt]
    omega
end
mutual
theorem showable_fit : ∀ d : Dt, d.fit = true → d.py.showable = true
  | .non, _ => by rw [Dt.py, PyData.showable]
  | .bl b, _ => by rw [Dt.py, PyData.showable]
  | .int i, h => by
    rw [Dt.py, PyData.showable]
    exact decide_eq_true (log_60 (of_decide_eq_true (by rw [Dt.fit] at h; exact h)))
  | .str x, h => by rw [Dt.py, PyData.showable]
  | .lst xs, h => by rw [Dt.py, PyData.showable]; exact showableAll_fit xs (by rw [Dt.fit] at h; exact h)
  | .tup xs, h => by rw [Dt.py, PyData.showable]; exact showableAll_fit xs (by rw [Dt.fit] at h; exact h)
  | .exc _, h => by simp [Dt.fit] at h
  | .con _, h => by simp [Dt.fit] at h
theorem showableAll_fit : ∀ xs : List Dt, fitAll xs = true → PyData.showableAll (pyAll xs) = true
  | [], _ => by rw [pyAll, PyData.showableAll]
  | x :: xs, h => by
    have h' : x.fit = true ∧ fitAll xs = true := by simpa [fitAll] using h
    rw [pyAll, PyData.showableAll, showable_fit x h'.1, showableAll_fit xs h'.2]; rfl
end
mutual
theorem noDict_py : ∀ d : Dt, d.cln = true → d.py.hasDict = false
  | .non, _ => by rw [Dt.py, PyData.hasDict]
  | .bl b, _ => by rw [Dt.py, PyData.hasDict]
  | .int i, _ => by rw [Dt.py, PyData.hasDict]
  | .str x, _ => by rw [Dt.py, PyData.hasDict]
  | .lst xs, c => by rw [Dt.py, PyData.hasDict]; exact noDict_all xs (by rw [Dt.cln] at c; exact c)
  | .tup xs, c => by rw [Dt.py, PyData.hasDict]; exact noDict_all xs (by rw [Dt.cln] at c; exact c)
  | .exc _, c => by simp [Dt.cln] at c
  | .con _, c => by simp [Dt.cln] at c
theorem noDict_all : ∀ xs : List Dt, clnAll xs = true → PyData.hasDictAll (pyAll xs) = false
  | [], _ => by rw [pyAll, PyData.hasDictAll]
  | x :: xs, c => by
    rw [clnAll, Bool.and_eq_true] at c
    rw [pyAll, PyData.hasDictAll, noDict_py x c.1, noDict_all xs c.2]; rfl
end
mutual
theorem fit_cln : ∀ d : Dt, d.fit = true → d.cln = true
  | .non, _ => by rw [Dt.cln] <;> simp
  | .bl _, _ => by rw [Dt.cln] <;> simp
  | .int _, _ => by rw [Dt.cln] <;> simp
  | .str _, _ => by rw [Dt.cln] <;> simp
  | .lst xs, h => by rw [Dt.cln]; exact fitAll_cln xs (by rw [Dt.fit] at h; exact h)
  | .tup xs, h => by rw [Dt.cln]; exact fitAll_cln xs (by rw [Dt.fit] at h; exact h)
  | .exc _, h => by simp [Dt.fit] at h
  | .con _, h => by simp [Dt.fit] at h
theorem fitAll_cln : ∀ xs : List Dt, fitAll xs = true → clnAll xs = true
  | [], _ => by rw [clnAll]
  | x :: xs, h => by
    rw [fitAll, Bool.and_eq_true] at h
    rw [clnAll, fit_cln x h.1, fitAll_cln xs h.2]; rfl
end
mutual
theorem lay_cln : ∀ d : Dt, d.py.canLay0 = true → d.cln = true
  | .non, _ => by rw [Dt.cln] <;> simp
  | .bl _, _ => by rw [Dt.cln] <;> simp
  | .int _, _ => by rw [Dt.cln] <;> simp
  | .str _, _ => by rw [Dt.cln] <;> simp
  | .lst xs, h => by rw [Dt.cln]; exact layAll_cln xs (by rw [Dt.py, PyData.canLay0] at h; exact h)
  | .tup xs, h => by rw [Dt.cln]; exact layAll_cln xs (by rw [Dt.py, PyData.canLay0] at h; exact h)
  | .exc _, h => by rw [Dt.py, PyData.canLay0] at h; cases h
  | .con _, h => by rw [Dt.py, PyData.canLay0] at h; cases h
theorem layAll_cln : ∀ xs : List Dt, PyData.canLayAll0 (pyAll xs) = true → clnAll xs = true
  | [], _ => by rw [clnAll]
  | x :: xs, h => by
    rw [pyAll, PyData.canLayAll0, Bool.and_eq_true] at h
    rw [clnAll, lay_cln x h.1, layAll_cln xs h.2]; rfl
end
theorem shaped_cln {d : Dt} (h : SeqAt.shaped d.py = true) : d.cln = true := by
  unfold SeqAt.shaped at h
  rw [Bool.and_eq_true] at h
  exact lay_cln d h.1
mutual
theorem dep_py : ∀ d : Dt, d.py.depth = d.dep
  | .non => by simp only [Dt.py, PyData.depth, Dt.dep]
  | .bl b => by simp only [Dt.py, PyData.depth, Dt.dep]
  | .int i => by simp only [Dt.py, PyData.depth, Dt.dep]
  | .str x => by simp only [Dt.py, PyData.depth, Dt.dep]
  | .exc _ => by rw [Dt.py, Dt.dep]
  | .con _ => by rw [Dt.py, Dt.dep]
  | .lst xs => by simp only [Dt.py, PyData.depth, Dt.dep, dep_all xs]
  | .tup xs => by simp only [Dt.py, PyData.depth, Dt.dep, dep_all xs]
theorem dep_all : ∀ xs : List Dt, PyData.depthAll (pyAll xs) = depAll xs
  | [] => by simp only [pyAll, PyData.depthAll, depAll]
  | x :: xs => by simp only [pyAll, PyData.depthAll, depAll, dep_py x, dep_all xs]
end
/-- what can be shown -/
structure Fit (d : Dt) : Prop where
  fit : d.fit = true
  wt : d.wt ≤ 200000
  dep : d.dep ≤ 60
def isSeq : Dt → Bool
  | .lst _ | .tup _ | .non => true
  | _ => false
/-- repr(x), x a list or a tuple or None -/
def rRepr (H : Hp) (xs : List V) (Q : VK) : Prop := ∃ x d, xs = [x] ∧ R H x d ∧ isSeq d = true ∧ Fit d ∧ Q (.str d.py.shown) H
theorem call_repr {X : Cx} (hg : X.A.guards = some []) (hu : X.A.units + 64 < cLine) : CallR X (.builtin "repr") (fun xs H Q => rRepr H xs Q) := by
  intro pins s σ H xs us Q I r h
  obtain ⟨x, d, rfl, rx, hq, f, q⟩ := h
  obtain ⟨u, rfl, rv⟩ := vals1 r
  obtain ⟨as, rd⟩ := Dp.reads I d.py x u (R.dp rx (fit_cln d f.fit)) rv
  by_cases hnn : d = .non
  · subst hnn
    have hx := rx.non_inv
    subst hx
    have hu0 : u = Value.none := rv
    subst hu0
    have es : (Dt.non).py.shown = ("None" : Str) := by rw [Dt.py, PyData.shown]
    rw [es] at q
    exact PySem.P.repr_of_none ⟨.str "None", H, I.tok _, ⟨_, rfl⟩, q⟩
  have hd : ∃ a, u = .ref a := by
    cases rx with
    | lst _ _ => exact ⟨_, rv⟩
    | tup _ _ => exact ⟨_, rv⟩
    | non => exact absurd rfl hnn
    | exc _ => exact ⟨_, rv⟩
    | con _ => exact ⟨_, rv⟩
    | bl _ => cases hq
    | int _ => cases hq
    | str _ => cases hq
  obtain ⟨a, rfl⟩ := hd
  have hs := shown_sz d f.fit
  have hw := f.wt
  have hdep := f.dep
  refine repr_of_reads' rd (showable_fit d f.fit) (PyData.noDict_hsm (noDict_py d (fit_cln d f.fit))) hg (by rw [dep_py]; omega) (fun _ _ e => e) (fun h' t tk hk => ?_) (by rw [sizeLine_eq]; omega)
  exact ⟨.str _, H, I.kept hk, ⟨_, rfl⟩, q⟩
end U

namespace U
open PySem PySem.Spec PyProof.Rows L2

section
variable {P : Program} {w : World} {K : PySem.W.Frag} {mg : Str → Option Value} {base : Heap} {CX : CXT}
/-- a def keeps its promise wherever no repr runs around it -/
structure FnG (P : Program) (w : World) (K : PySem.W.Frag) (mg : Str → Option Value) (base : Heap) (CX : CXT) (k : Nat) (f : Addr) (fd : FuncData) (ps : List Str) (sp : Sp) : Prop where
  long : ∀ as H Q E, sp as H Q E → as.length = ps.length
  goes : ∀ (Γ : Around), Γ.guards = some [] → Room k Γ → ∀ (below : List Env) (st : Shared) (H : Hp), Env0 P w K mg base Γ below st H →
    ∀ (given : Args) (us : List Value) (as : List V), BindsTo st fd given (ps.zip us) → Vals as us → ∀ (Q : VK) (E : XK), sp as H Q E →
      codeAny (model P w) Γ (.call (.ref f) given) (CR CX below P w H st Q E) st
theorem FnG.up {j k : Nat} {f : Addr} {fd : FuncData} {ps : List Str} {sp : Sp} (F : FnG P w K mg base CX j f fd ps sp) (h : j ≤ k) : FnG P w K mg base CX k f fd ps sp :=
  ⟨F.long, fun Γ g r => F.goes Γ g (r.mono h)⟩
theorem deep_guards {Γ : Around} {env : Env} (h : Γ.guards = some []) : (Γ.deeper env).guards = some [] := h

/-- a def by its body -/
theorem fnG_of {k : Nat} {f : Addr} {name qual : Str} {params : Arguments} {body : List Stmt} {scope : Scope} {v1 v2 v3 v4 cdv v5 v6 : Value} {o1 o2 : Option Addr}
    {slots : Array (Option Value)} {N ps : List Str} {sp : Sp}
    (there : K.lookup f = some ⟨v6, o2, .func (PySem.W.fnOf name qual params body scope v1 v2 v3 v4 o1 cdv v5), slots⟩) (code : PySem.W.codeIn K cdv qual = true) (S : FnScope N ps scope)
    (long : ∀ as H Q E, sp as H Q E → as.length = ps.length)
    (inside : ∀ (Γ : Around) (below : List Env) (st : Shared) (H : Hp) (as : List V) (Q : VK) (E : XK), Γ.guards = some [] →
      Room k (Γ.deeper (envOfC qual scope st.heap.objs.size f cdv)) → sp as H Q E →
      ∃ t, PSs (cxOf CX P w K mg base N qual scope f cdv Γ below st H E) body t ∧ t { nx := fun _ H' => Q .non H', rt := Q } (start N as) H) :
    FnG P w K mg base CX (k + 1) f (PySem.W.fnOf name qual params body scope v1 v2 v3 v4 o1 cdv v5) ps sp := by
  constructor
  · exact long
  intro Γ g room below st H e0 given us as hb hv Q E asked
  have many := long as H Q E asked
  have kin : K.In st.heap := e0.mod.kin.keeps (fun b o z => (e0.bs b o z).1)
  have free : st.heap.NoLimit := e0.mod.nolimit.keeps (fun b o z => (e0.bs b o z).1)
  have names : ∀ y ∈ ps.zip us, scope.names.lookup y.1 = some .local ∨
      (scope.names.lookup y.1 = some .cell ∧ ((cellsFrom (st.heap.objs.size + 1) scope.names []).lookup y.1).isSome = true) := by
    rintro ⟨n, u⟩ hy
    exact (S.par n (List.of_mem_zip hy).1).elim .inl fun z => .inr ⟨z, PySem.W.cellsFrom_some _ _ _ (.inl z)⟩
  apply codeAny_call_function room.depth (kin _ _ there) rfl S.co S.gen rfl (PySem.W.codeRec_of kin code) (hb _ _ _ _ _)
  apply wpAny_newFunctionEnv_cells S.kind names
  rintro env rfl s1 x
  refine ⟨free.keeps x.toInCall.keep, codeAny_func ?_⟩
  obtain ⟨t, derived, reads⟩ := inside Γ below st H as Q E g (room.deeper _) asked
  have I := inv_start (CX := CX) (P := P) (w := w) (K := K) (mg := mg) (base := base) (E := E) S room.hd e0 many hv x
  have back : ∀ {σ' : L2.St} {H' : Hp} {v : V} {u : Value} {s' : Shared}, Inv (cxOf CX P w K mg base N qual scope f cdv Γ below st H E) [] σ' H' s' →
      RelV v u → Q v H' → CE below P w H st Q u s' := by
    intro σ' H' v u s' J rv q
    exact ⟨v, H', J.os, J.bare, J.base, J.hok, rv, q⟩
  refine wpAny_mono (derived.run [] s1 (start N as) H _ I reads) (fun fl s' hs => ?_) (fun _ _ z => z)
  match fl, hs with
  | .next, ⟨_, _, J, q⟩ => exact back (v := V.non) (u := Value.none) J rfl q
  | .ret u, ⟨_, _, _, J, rv, q⟩ => exact back J rv q
  | .brk, ⟨_, _, _, q⟩ => exact q.elim
  | .cont, ⟨_, _, _, q⟩ => exact q.elim

/-! ### calls -/
section
variable {X : Cx} {k : Nat} {f : Addr} {fd : FuncData} {ps : List Str} {sp : Sp} {E : XK} {x : Str} {p pos : Pos} {e : Expr} {es : List Expr} {kws : List Keyword} {t tk : TA}
theorem gone {pins : List (Addr × Obj)} {σ : L2.St} {H : Hp} {s : Shared} {Q : VK} {given : Args} {us : List Value} {as : List V} (F : FnG X.prog X.w X.K X.mg X.base CX k f fd ps sp) (g : X.A.guards = some []) (room : Room k X.A)
    (pass : Passes CX X E) (I : Inv X pins σ H s) (hb : BindsTo s fd given (ps.zip us)) (hv : Vals as us) (asked : sp as H Q E) :
    codeAny (model X.prog X.w) X.A (.call (.ref f) given) (fun r s' => match r with | .ok (.ret u) => EP X pins σ Q u s' | .ok _ => False | .error z => X.xe z s') s := by
  refine codeAny_mono (F.goes X.A g room X.stack s H I.env0 given us as hb hv Q E asked) (fun r s' z => ?_)
  match r, z with
  | .error a, z => exact pass pins σ H s a s' I z
  | .ok (.ret u), z => exact I.after z
  | .ok .next, z => exact z.elim
  | .ok .brk, z => exact z.elim
  | .ok .cont, z => exact z.elim
/-- f(e, ..) -/
theorem pe_go (F : FnG X.prog X.w X.K X.mg X.base CX k f fd ps sp) (g : X.A.guards = some []) (room : Room k X.A) (glob : Gl X x) (at_ : X.mg x = some (.ref f)) (kept : PySem.W.keepIn X.K (.ref f) = true)
    (hb : Binds X.K fd ps []) (pass : Passes CX X E) (ha : PA X (e :: es) t) (nd : (x == ("__debug__" : Str)) = false := by decide)
    (he : starEach (e :: es) X.env = (false, eval e X.env) :: starEach es X.env := by rfl) (plain : (backTo pos (starEach es X.env)).any (·.1) = false := by rfl) :
    PE X (.Call (.Name x p) (e :: es) [] pos) (tCall sp [] E t) := by
  constructor
  intro pins s σ H Q I h
  apply wpAny_Call_Name_kw (ld_glob I glob at_ _ nd)
  refine PySem.W.callWith_K (h₀ := X.base) I.ok.mod.kin kept (thn (ha.run pos pins s σ H _ I h) ?_) he plain
  rintro us s1 ⟨as, H1, I1, rv, asked⟩
  rw [List.append_nil] at asked
  have many : us.length = ps.length := by rw [← rv.length]; exact F.long _ _ _ _ asked
  have bound := hb s1 us I1.kIn (by simpa using many)
  rw [List.append_nil] at bound
  exact ⟨I1.kIn, wpAny_call (gone F g room pass I1 bound rv asked)⟩
/-- f(e, .., k = v, ..) -/
theorem pe_goK {ks : List Str} {gg : List Value → List Value → List Value} {gV : List V → List V → List V} (F : FnG X.prog X.w X.K X.mg X.base CX k f fd ps sp) (g : X.A.guards = some []) (room : Room k X.A) (glob : Gl X x) (at_ : X.mg x = some (.ref f))
    (kept : PySem.W.keepIn X.K (.ref f) = true) (hb : KBinds X.K fd ps ks gg gV) (pass : Passes CX X E) (ha : PA X (e :: es) t) (hk : PK X kws tk) (all : (backToKw pos (keywordEach kws X.env)).all (·.1.isSome) = true := by rfl)
    (names : (backToKw pos (keywordEach kws X.env)).filterMap (·.1) = ks := by rfl) (nd : (x == ("__debug__" : Str)) = false := by decide) (he : starEach (e :: es) X.env = (false, eval e X.env) :: starEach es X.env := by rfl)
    (plain : ((backTo pos (starEach (e :: es) X.env)).any (·.1) || (backToKw pos (keywordEach kws X.env)).any (·.1.isNone)) = false := by rfl) :
    PE X (.Call (.Name x p) (e :: es) kws pos) (tCallK sp gV E t tk) := by
  constructor
  intro pins s σ H Q I h
  apply wpAny_Call_Name_kw (ld_glob I glob at_ _ nd)
  refine PySem.W.callWith_KW (h₀ := X.base) I.ok.mod.kin kept all (thn (ha.run pos pins s σ H _ I h) ?_) plain he
  rintro us s1 ⟨as, H1, I1, rv, q⟩
  refine thn (hk.run pos pins s1 σ H1 _ I1 q) ?_
  rintro ws s2 ⟨zs, H2, I2, rz, asked⟩
  rw [names]
  have both := hb.rel rv rz
  have many : (gg us ws).length = ps.length := by rw [← both.length]; exact F.long _ _ _ _ asked
  exact ⟨I2.kIn, wpAny_call (gone F g room pass I2 (hb.to s2 us ws I2.kIn many) both asked)⟩
/-- f(k = v, ..), no argument by position -/
theorem pe_goN {ks : List Str} {gg : List Value → List Value → List Value} {gV : List V → List V → List V} (F : FnG X.prog X.w X.K X.mg X.base CX k f fd ps sp) (g : X.A.guards = some []) (room : Room k X.A) (glob : Gl X x) (at_ : X.mg x = some (.ref f))
    (kept : PySem.W.keepIn X.K (.ref f) = true) (hb : KBinds X.K fd ps ks gg gV) (pass : Passes CX X E) (hk : PK X kws tk) (all : (backToKw pos (keywordEach kws X.env)).all (·.1.isSome) = true := by rfl)
    (names : (backToKw pos (keywordEach kws X.env)).filterMap (·.1) = ks := by rfl) (nd : (x == ("__debug__" : Str)) = false := by decide)
    (plain : ((backTo pos (starEach [] X.env)).any (·.1) || (backToKw pos (keywordEach kws X.env)).any (·.1.isNone)) = false := by rfl) :
    PE X (.Call (.Name x p) [] kws pos) (tCallK sp gV E tNil tk) := by
  constructor
  intro pins s σ H Q I h
  apply wpAny_Call_Name_kw (ld_glob I glob at_ _ nd)
  refine PySem.W.callWith_KW0 (h₀ := X.base) I.ok.mod.kin kept all (thn (hk.run pos pins s σ H _ I h) ?_) plain
  rintro ws s2 ⟨zs, H2, I2, rz, asked⟩
  rw [names]
  have both := hb.rel (vs := []) (us := []) .nil rz
  have many : (gg [] ws).length = ps.length := by rw [← both.length]; exact F.long _ _ _ _ asked
  exact ⟨I2.kIn, wpAny_call (gone F g room pass I2 (hb.to s2 [] ws I2.kIn many) both asked)⟩
end
end

/-! ### the end: the law's own call -/
section
variable {P : Program} {w : World} {K : PySem.W.Frag} {mg : Str → Option Value} {CX : CXT}
/-- the script alone is told, or nothing -/
def onlyAt (a : Addr) (u : Option HO) : Hp := fun b => if b = a then u else none
theorem onlyAt_same {a : Addr} {u : Option HO} : onlyAt a u a = u := if_pos rfl
theorem onlyAt_ne {a b : Addr} {u : Option HO} (h : b ≠ a) : onlyAt a u b = none := if_neg h

theorem law_goes {k : Nat} {fa a : Addr} {fd : FuncData} {x : Str} {sp : Sp} {st : Shared} {us : List Value} {ns : List Int} {mb : Str → Option Value} {u : Option HO}
    (kin : K.In st.heap) (glob : st.heap.Ns mainGlobals mg) (blt : st.heap.Ns builtinsNs mb) (boot : ∀ y : Str, y ≠ "__name__" → mb y = bootBuiltins y) (free : st.heap.NoLimit) (nogen : st.gens = #[])
    (list : st.heap.get? a = some { cls := .type "list", data := .seq us.toArray }) (nums : IntsAre us ns) (short : ns.length ≤ sizeLine) (room : Room k callerA)
    (told : u = none ∨ (u = some (.frz { cls := .type "list", data := .seq us.toArray } (.lst (ns.map V.int))) ∧ K.lookup a = none))
    (F : ∀ base : Heap, K.In base → base.Ns mainGlobals mg → FnG P w K mg base CX k fa fd [x] sp) (bind : ∀ (s : Shared) (y : Value), BindsTo s fd ⟨[y], []⟩ [(x, y)])
    (asked : sp [.ref a] (onlyAt a u) (fun v _ => v = .bl true) fun _ _ _ => False) (quiet : ∀ H e s', CX [] H st (fun _ _ _ => False) e s' → False) :
    codeAny (model P w) callerA (.call (.ref fa) ⟨[.ref a], []⟩) (fun r s' => r = .ok (.ret (.bool true)) ∧ OldK st.heap s'.heap ∧ s'.os = st.os ∧ AllBare s'.gens) st := by
  have vals := vals_ints nums
  have held : HOk P w (onlyAt a u) st.heap := by
    intro b o q
    by_cases hb : b = a
    · rw [hb, onlyAt_same] at q
      rcases told with z | ⟨z, _⟩
      · rw [z] at q; cases q
      · rw [z] at q
        cases q
        rw [hb]
        exact ⟨list, by rw [List.length_map]; exact short, us, _, vals, list⟩
    · rw [onlyAt_ne hb] at q; cases q
  have away : ∀ {b : Addr} {o : Obj}, st.heap.get? b = some o → (b = a → u = none) → (hidT st.heap (onlyAt a u)).get? b = some o := by
    intro b o e h
    refine hidT_get e ?_
    by_cases hb : b = a
    · rw [hb, onlyAt_same]; exact h hb
    · exact onlyAt_ne hb
  have spaces : ∀ {b : Addr} {m : Str → Option Value}, st.heap.Ns b m → (hidT st.heap (onlyAt a u)).Ns b m := by
    rintro b m ⟨o, es, ep, e, d, r⟩
    refine ⟨o, es, ep, away e (fun hb => ?_), d, r⟩
    rw [hb, list] at e
    cases e
    exact nomatch d
  have kin' : K.In (hidT st.heap (onlyAt a u)) := by
    intro b o e
    refine away (kin b o e) (fun hb => ?_)
    rcases told with z | ⟨_, z⟩
    · exact z
    · rw [hb, z] at e; cases e
  have around : Env0 P w K mg (hidT st.heap (onlyAt a u)) callerA [] st (onlyAt a u) := {
    frames := rfl
    mod := ⟨kin', spaces glob, ⟨mb, spaces blt, boot⟩, free.elim fun mc z => ⟨mc, spaces z.1, z.2⟩⟩
    bs := fun b o e => of_hidT e
    bsz := Nat.le_of_eq (hidT_size _ _)
    funs := trivial
    frf := fun b z => nomatch z
    hok := held
    bare := .of_eq nogen }
  have run := (F _ kin' (spaces glob)).goes callerA rfl room [] st _ around ⟨[.ref a], []⟩ [.ref a] [.ref a] (bind st (.ref a)) (.cons rfl .nil) _ _ asked
  refine codeAny_mono run (fun r s' z => ?_)
  match r, z with
  | .error e, z => exact (quiet _ e s' z).elim
  | .ok .next, z => exact z.elim
  | .ok .brk, z => exact z.elim
  | .ok .cont, z => exact z.elim
  | .ok (.ret y), ⟨v, H', os, bare, un, held', ry, q⟩ =>
    have q : v = .bl true := q
    rw [q] at ry
    have ry : y = Value.bool true := ry
    rw [ry]
    refine ⟨rfl, OldK.of_keep (fun b o e => ?_), os, bare⟩
    by_cases hb : b = a ∧ u ≠ none
    · rcases told with z | ⟨z, _⟩
      · exact absurd z hb.2
      · have f0 : onlyAt a u a = some (.frz { cls := .type "list", data := .seq us.toArray } (.lst (ns.map V.int))) := onlyAt_same.trans z
        have f1 := (held' a _ (un.frzs a _ _ f0)).1
        rw [hb.1] at e ⊢
        rw [list] at e
        cases e
        exact f1
    · refine un.keep b o e ?_ (fun z => nomatch z) (fun z => nomatch z)
      by_cases hb' : b = a
      · rw [hb', onlyAt_same]
        exact Classical.byContradiction fun z => hb ⟨hb', z⟩
      · exact onlyAt_ne hb'

/-- what the law is told of its script -/
def Scr (K : PySem.W.Frag) (a : Addr) (ns : List Int) (H : Hp) : Prop := SqL K H a (ns.map V.int) ∧ ∀ b o, H b = some o → b = a
theorem walkG {l : PySem.W.OpenLaw} {n k : Nat} {q : Program} {loose : List Str} {XP : (Str → Option Value) → Heap → Prop} {YP : World → Heap → Prop} {d : DefRec} {K : Params → PySem.W.Frag} {CX : World → CXT} {sp : World → Sp} {x : Str}
    (most : l.most = some n) (line : n ≤ sizeLine) (plain : d.params.defaults = []) (room : Room k callerA) (has : ∀ (w : World) (h : Heap), YP w h → (K w.params).In h)
    (F : ∀ (w : World) (mg : Str → Option Value) (fa : Addr) (h : Heap), (K w.params).In h → h.Ns mainGlobals mg → mg d.name = some (.ref fa) → ∃ fd : FuncData, (∀ (s : Shared) (u : Value), BindsTo s fd ⟨[u], []⟩ [(x, u)]) ∧
        ∀ base : Heap, (K w.params).In base → base.Ns mainGlobals mg → FnG l.prog w (K w.params) mg base (CX w) k fa fd [x] (sp w))
    (asked : ∀ (w : World) (H : Hp) (a : Addr) (ns : List Int), ns.length ≤ n → Scr (K w.params) a ns H → sp w [.ref a] H (fun v _ => v = .bl true) fun _ _ _ => False)
    (quiet : ∀ (w : World) (H : Hp) (s : Shared) (e : Value) (s' : Shared), CX w [] H s (fun _ _ _ => False) e s' → False) :
    PySem.W.WalkO q loose XP YP l.row.toRowW d [] (fun f vs => PySem.call f vs) := by
  apply Att.attach_call most plain
  intro w s₀ st mg mb fa o pm cd doc a us ns G Y ho hd hcd hmg list nums long nogen
  have kin := has w _ Y
  obtain ⟨fd, bind, ok⟩ := F w mg fa _ kin G.T.g hmg
  have short := Nat.le_trans long line
  cases e : (K w.params).lookup a with
  | none =>
    exact law_goes kin G.T.g G.T.b G.T.builtins G.T.nolimit nogen list nums short room (.inr ⟨rfl, e⟩) ok bind
      (asked w _ a ns long ⟨.inl (.inr ⟨_, onlyAt_same⟩), fun b o z => Classical.byContradiction fun h => by rw [onlyAt_ne h] at z; cases z⟩) (fun H e s' => quiet w H st e s')
  | some ob =>
    have same := kin a ob e
    rw [list] at same
    cases same
    refine law_goes kin G.T.g G.T.b G.T.builtins G.T.nolimit nogen list nums short room (.inl rfl) ok bind
      (asked w _ a ns long ⟨.inr ⟨_, us.toArray, _, e, rfl, rfl, rfl, ?_, ?_⟩, fun b o z => ?_⟩) (fun H e s' => quiet w H st e s')
    · rw [List.size_toArray, nums.length]; exact short
    · simpa using vals_ints nums
    · by_cases h : b = a
      · exact h
      · rw [onlyAt_ne h] at z; cases z
end
end U

namespace U
open PySem L2 Evl

/-- from (B, H) to (B', H'): B' is B and some that is new behind H -/
structure New (B H B' H' : Hp) : Prop where
  ext : Ex B B'
  sub : Ex B' H'
  heap : Ex H H'
  fresh : ∀ a, B a = none → H a ≠ none → B' a = none
section
variable {B H B1 H1 B2 H2 : Hp}
theorem New.refl (e : Ex B H) : New B H B H := ⟨Ex.refl _, e, Ex.refl _, fun _ h _ => h⟩
theorem New.trans (a : New B H B1 H1) (b : New B1 H1 B2 H2) : New B H B2 H2 :=
  ⟨a.ext.trans b.ext, b.sub, a.heap.trans b.heap, fun p h1 h2 => b.fresh p (a.fresh p h1 h2) fun h3 => by
    cases q : H p with
    | none => exact h2 q
    | some o => rw [a.heap p o q] at h3; cases h3⟩
theorem New.grow (e : Ex B H1) (h : Ex H H1) (e0 : Ex B H) : New B H B H1 := ⟨Ex.refl _, e, h, fun _ h _ => h⟩
/-- one new object -/
theorem New.one {p : Addr} {o : HO} (e : Ex B H) (h : H p = none) : New B H (upd B p o) (upd H p o) := by
  have hb : B p = none := fresh_back e h
  refine ⟨Ex.new hb, fun a u q => ?_, Ex.new h, fun a h1 h2 => ?_⟩
  · by_cases ha : a = p
    · subst ha; rw [upd_same] at q ⊢; exact q
    · rw [upd_ne ha] at q ⊢; exact e a u q
  · rw [upd_ne (fun z => by subst z; exact h2 h)]; exact h1
/-- what may be read in either -/
def join (B C : Hp) : Hp := fun a => match B a with | some o => some o | none => C a
theorem join_l : Ex B (join B B1) := fun a o h => by unfold join; rw [h]
theorem join_r (h1 : Ex B H) (h2 : Ex B1 H) : Ex B1 (join B B1) := fun a o h => by
  unfold join
  cases q : B a with
  | none => exact h
  | some u =>
    have x := h1 a u q
    rw [h2 a o h] at x
    exact x.symm
theorem join_sub (h1 : Ex B H) (h2 : Ex B1 H) : Ex (join B B1) H := fun a o h => by
  unfold join at h
  cases q : B a with
  | none => rw [q] at h; exact h2 a o h
  | some u => rw [q] at h; cases h; exact h1 a _ q
end

def EvR (te : TE) (σ : L2.St) (B : Hp) (d : Dt) : Prop := ∀ H1, Ex B H1 → ∀ Q : VK, (∀ v B2 H2, New B H1 B2 H2 → R B2 v d → Q v H2) → te σ H1 Q
def EvRA (ta : TA) (σ : L2.St) (B : Hp) (ds : List Dt) : Prop := ∀ H1, Ex B H1 → ∀ Q : List V → Hp → Prop, (∀ vs B2 H2, New B H1 B2 H2 → RA B2 vs ds → Q vs H2) → ta σ H1 Q
/-- a test -/
def EvC (tt : TT) (σ : L2.St) (B : Hp) (b : Bool) : Prop := ∀ H1, Ex B H1 → ∀ Q : Bool → Hp → Prop, (∀ H2, Ex H1 H2 → Q b H2) → tt σ H1 Q
/-- an operation on two, on one; a call on values -/
def RV (r : R2) (x y : Dt) (z : Dt) : Prop := ∀ B H1 v w, Ex B H1 → R B v x → R B w y → ∀ Q : VK, (∀ u B2 H2, New B H1 B2 H2 → R B2 u z → Q u H2) → r v w H1 Q
def RU (r : V → Hp → VK → Prop) (x : Dt) (z : Dt) : Prop := ∀ B H1 v, Ex B H1 → R B v x → ∀ Q : VK, (∀ u B2 H2, New B H1 B2 H2 → R B2 u z → Q u H2) → r v H1 Q
def RL (r : List V → Hp → VK → Prop) (xs : List Dt) (z : Dt) : Prop := ∀ B H1 vs, Ex B H1 → RA B vs xs → ∀ Q : VK, (∀ u B2 H2, New B H1 B2 H2 → R B2 u z → Q u H2) → r vs H1 Q

section
variable {K : PySem.W.Frag} {σ : L2.St} {B B' H : Hp} {ta tb te : TE} {t u : TT} {tl tr : TA} {x y z d e : Dt} {xs ds : List Dt} {r : R2} {a b : Bool} {i j : Int}
theorem EvR.mono (e : Ex B B') (h : EvR te σ B d) : EvR te σ B' d := fun H1 e1 Q q => h H1 (e.trans e1) Q fun v B2 H2 n rv =>
  q v (join B' B2) H2 ⟨join_l, join_sub (e1.trans n.heap) n.sub, n.heap, fun p h1 h2 => by
    unfold join
    rw [h1]
    exact n.fresh p (fresh_back e h1) h2⟩ (rv.mono (join_r (e1.trans n.heap) n.sub))
theorem EvRA.mono (e : Ex B B') (h : EvRA tl σ B ds) : EvRA tl σ B' ds := fun H1 e1 Q q => h H1 (e.trans e1) Q fun v B2 H2 n rv =>
  q v (join B' B2) H2 ⟨join_l, join_sub (e1.trans n.heap) n.sub, n.heap, fun p h1 h2 => by
    unfold join
    rw [h1]
    exact n.fresh p (fresh_back e h1) h2⟩ (rv.mono (join_r (e1.trans n.heap) n.sub))
theorem EvC.mono (e : Ex B B') (h : EvC t σ B b) : EvC t σ B' b := fun H1 e1 Q q => h H1 (e.trans e1) Q q
theorem EvR.is (h : EvR te σ B d) (q : d = e) : EvR te σ B e := q ▸ h
theorem EvC.is (h : EvC t σ B a) (q : a = b) : EvC t σ B b := q ▸ h

theorem ev_v {n : Nat} {v : V} (h : σ[n]? = some (some v)) (rv : R B v d) : EvR (tVar n) σ B d := fun H1 e Q q => ⟨v, h, q v B H1 (New.refl e) rv⟩
theorem ev_i : EvR (tC (.int i)) σ B (.int i) := fun H1 e Q q => q _ B H1 (New.refl e) (.int i)
theorem ev_b : EvR (tC (.bl a)) σ B (.bl a) := fun H1 e Q q => q _ B H1 (New.refl e) (.bl a)
theorem ev_s {s : Str} : EvR (tC (.str s)) σ B (.str s) := fun H1 e Q q => q _ B H1 (New.refl e) (.str s)
theorem ev_n : EvR (tC .non) σ B .non := fun H1 e Q q => q _ B H1 (New.refl e) .non
theorem ev_op (ha : EvR ta σ B x) (hb : EvR tb σ B y) (hr : RV r x y z) : EvR (tOp r ta tb) σ B z := fun H1 e Q q =>
  ha H1 e _ fun v B2 H2 n rv => (hb.mono n.ext) H2 n.sub _ fun w B3 H3 n2 rw => hr B3 H3 v w n2.sub (rv.mono n2.ext) rw Q fun c B4 H4 n3 rc => q c B4 H4 ((n.trans n2).trans n3) rc
theorem ev_un {f : V → Hp → VK → Prop} (ha : EvR ta σ B x) (hr : RU f x z) : EvR (tUn f ta) σ B z := fun H1 e Q q =>
  ha H1 e _ fun v B2 H2 n rv => hr B2 H2 v n.sub rv Q fun c B4 H4 n3 rc => q c B4 H4 (n.trans n3) rc
theorem ea_nil : EvRA tNil σ B [] := fun H1 e Q q => q [] B H1 (New.refl e) .nil
theorem ea_cons (h : EvR te σ B x) (hr : EvRA tr σ B xs) : EvRA (tCons te tr) σ B (x :: xs) := fun H1 e Q q =>
  h H1 e _ fun v B2 H2 n rv => (hr.mono n.ext) H2 n.sub _ fun vs B3 H3 n2 rvs => q (v :: vs) B3 H3 (n.trans n2) (.cons (rv.mono n2.ext) rvs)
theorem ev_cb {f : List V → Hp → VK → Prop} (h : EvRA tl σ B xs) (hr : RL f xs z) : EvR (tCB f tl) σ B z := fun H1 e Q q =>
  h H1 e _ fun vs B2 H2 n rv => hr B2 H2 vs n.sub rv Q fun c B4 H4 n3 rc => q c B4 H4 (n.trans n3) rc
theorem ev_tup (h : EvRA tl σ B ds) (hl : ds.length ≤ 100000) : EvR (tTup tl) σ B (.tup ds) := fun H1 e Q q =>
  h H1 e _ fun vs B2 H2 n rv => ⟨by rw [rv.len]; exact sz_of hl, fun p hp => q _ (upd B2 p (.tup vs)) _ (n.trans (New.one n.sub hp)) (.tup upd_same (rv.mono (Ex.new (fresh_back n.sub hp))))⟩
theorem ev_lst (h : EvRA tl σ B ds) (hl : ds.length ≤ 100000) : EvR (tLst tl) σ B (.lst ds) := fun H1 e Q q =>
  h H1 e _ fun vs B2 H2 n rv => ⟨by rw [rv.len]; exact sz_of hl, fun p hp => q _ (upd B2 p (.lst vs)) _ (n.trans (New.one n.sub hp)) (.lst upd_same (rv.mono (Ex.new (fresh_back n.sub hp))))⟩
/-- if without loss: the value is an if -/
theorem ev_if (h : EvC t σ B b) (h1 : b = true → EvR ta σ B x) (h2 : b = false → EvR tb σ B x) : EvR (tIf t ta tb) σ B x := fun H1 e Q q => h H1 e _ fun H2 e2 => by
  have g : ∀ (ty : TE), EvR ty σ B x → ty σ H2 Q := fun ty hy => hy H2 (e.trans e2) Q fun v B3 H3 n rv => q v B3 H3 ((New.grow (e.trans e2) e2 e).trans n) rv
  cases b with
  | true => exact g ta (h1 rfl)
  | false => exact g tb (h2 rfl)
theorem ev_ifI (h : EvC t σ B b) (h1 : EvR ta σ B (.int i)) (h2 : EvR tb σ B (.int j)) : EvR (tIf t ta tb) σ B (.int (if b = true then i else j)) :=
  ev_if h (fun e => h1.is (by rw [e]; rfl)) (fun e => h2.is (by rw [e]; rfl))
theorem ev_and (h1 : EvR ta σ B (.bl a)) (h2 : a = true → EvR tb σ B (.bl b)) : EvR (tAndV ta tb) σ B (.bl (a && b)) := fun H1 e Q q => h1 H1 e _ fun v B2 H2 n rv => by
  cases rv
  refine ⟨a, rfl, ?_⟩
  cases a with
  | true => exact ((h2 rfl).mono n.ext) H2 n.sub Q fun v B3 H3 n2 r2 => q v B3 H3 (n.trans n2) r2
  | false => exact q _ B2 H2 n (.bl false)
theorem ev_or (h1 : EvR ta σ B (.bl a)) (h2 : a = false → EvR tb σ B (.bl b)) : EvR (tOrV ta tb) σ B (.bl (a || b)) := fun H1 e Q q => h1 H1 e _ fun v B2 H2 n rv => by
  cases rv
  refine ⟨a, rfl, ?_⟩
  cases a with
  | false => exact ((h2 rfl).mono n.ext) H2 n.sub Q fun v B3 H3 n2 r2 => q v B3 H3 (n.trans n2) r2
  | true => exact q _ B2 H2 n (.bl true)
theorem ev_not (h1 : EvR ta σ B (.bl a)) : EvR (tNotV ta) σ B (.bl (!a)) := fun H1 e Q q => h1 H1 e _ fun v B2 H2 n rv => by
  cases rv
  exact ⟨a, rfl, q _ B2 H2 n (.bl _)⟩
/-- tests -/
theorem ec_t (h : EvR te σ B (.bl a)) : EvC (tTest te) σ B a := fun H1 e Q q => h H1 e _ fun v B2 H2 n rv => by
  cases rv
  exact ⟨a, rfl, q H2 n.heap⟩
theorem ec_v (h : EvR te σ B (.bl a)) : EvC (tB te) σ B a := fun H1 e Q q => h H1 e _ fun v B2 H2 n rv => by
  cases rv
  exact ⟨a, rfl, q H2 n.heap⟩
theorem ec_and (h1 : EvC t σ B a) (h2 : a = true → EvC u σ B b) : EvC (tAnd t u) σ B (a && b) := fun H1 e Q q => h1 H1 e _ fun H2 e2 => by
  cases a with
  | true => exact h2 rfl H2 (e.trans e2) Q fun H3 e3 => q H3 (e2.trans e3)
  | false => exact q H2 e2
theorem ec_or (h1 : EvC t σ B a) (h2 : a = false → EvC u σ B b) : EvC (tOr t u) σ B (a || b) := fun H1 e Q q => h1 H1 e _ fun H2 e2 => by
  cases a with
  | false => exact h2 rfl H2 (e.trans e2) Q fun H3 e3 => q H3 (e2.trans e3)
  | true => exact q H2 e2
theorem ec_not (h1 : EvC t σ B a) : EvC (tNot t) σ B (!a) := fun H1 e _ q => h1 H1 e _ fun H2 e2 => q H2 e2
theorem ec_yes : EvC tYes σ B true := fun H1 e _ q => q H1 (Ex.refl H1)

/-! ### operations -/
theorem rv_I0 {g : Int → Int → V} {g' : Int → Int → Dt} (h : ∀ B i j, R B (g i j) (g' i j)) : RV (rI0 g) (.int i) (.int j) (g' i j) := fun B H1 v w e r1 r2 Q q => by
  cases r1; cases r2
  exact ⟨i, j, rfl, rfl, q _ B H1 (New.refl e) (h B i j)⟩
theorem rv_I {C : Int → Int → Prop} {g : Int → Int → V} {g' : Int → Int → Dt} (h : ∀ B i j, R B (g i j) (g' i j)) (hc : C i j) : RV (rI C g) (.int i) (.int j) (g' i j) := fun B H1 v w e r1 r2 Q q => by
  cases r1; cases r2
  exact ⟨i, j, rfl, rfl, hc, q _ B H1 (New.refl e) (h B i j)⟩
theorem rv_add : RV (rI0 fun i j => .int (i + j)) (.int i) (.int j) (.int (i + j)) := rv_I0 (g' := fun i j => .int (i + j)) fun _ _ _ => .int _
theorem rv_sub : RV (rI0 fun i j => .int (i - j)) (.int i) (.int j) (.int (i - j)) := rv_I0 (g' := fun i j => .int (i - j)) fun _ _ _ => .int _
theorem rv_mul (h : CMul i j) : RV (rI CMul fun i j => .int (i * j)) (.int i) (.int j) (.int (i * j)) := rv_I (g' := fun i j => .int (i * j)) (fun _ _ _ => .int _) h
theorem rv_mod (h : 0 < j) : RV (rI (fun _ j => 0 < j) fun i j => .int (i % j)) (.int i) (.int j) (.int (i % j)) := rv_I (g' := fun i j => .int (i % j)) (fun _ _ _ => .int _) h
theorem rv_div (h : CDiv i j) : RV (rI CDiv fun i j => .int (i / j)) (.int i) (.int j) (.int (i / j)) := rv_I (g' := fun i j => .int (i / j)) (fun _ _ _ => .int _) h
theorem rv_pow (h : CPow i j) : RV (rI CPow fun i j => .int (i ^ j.toNat)) (.int i) (.int j) (.int (i ^ j.toNat)) := rv_I (g' := fun i j => .int (i ^ j.toNat)) (fun _ _ _ => .int _) h
theorem rv_shr (h : 0 ≤ j) : RV (rI (fun _ j => 0 ≤ j) fun i j => .int (i / 2 ^ j.toNat)) (.int i) (.int j) (.int (i / 2 ^ j.toNat)) := rv_I (g' := fun i j => .int (i / 2 ^ j.toNat)) (fun _ _ _ => .int _) h
theorem rv_lt : RV (rI0 fun i j => .bl (decide (i < j))) (.int i) (.int j) (.bl (decide (i < j))) := rv_I0 (g' := fun i j => .bl (decide (i < j))) fun _ _ _ => .bl _
theorem rv_le : RV (rI0 fun i j => .bl (decide (i ≤ j))) (.int i) (.int j) (.bl (decide (i ≤ j))) := rv_I0 (g' := fun i j => .bl (decide (i ≤ j))) fun _ _ _ => .bl _
theorem rv_gt : RV (rI0 fun i j => .bl (decide (j < i))) (.int i) (.int j) (.bl (decide (j < i))) := rv_I0 (g' := fun i j => .bl (decide (j < i))) fun _ _ _ => .bl _
theorem rv_ge : RV (rI0 fun i j => .bl (decide (j ≤ i))) (.int i) (.int j) (.bl (decide (j ≤ i))) := rv_I0 (g' := fun i j => .bl (decide (j ≤ i))) fun _ _ _ => .bl _
theorem ru_neg : RU (rU fun i => .int (-i)) (.int i) (.int (-i)) := fun B H1 v e r1 Q q => by
  cases r1
  exact ⟨i, rfl, q _ B H1 (New.refl e) (.int _)⟩
/-- == and != of plain values; of data -/
def rOr (r r' : R2) : R2 := fun x y H Q => r x y H Q ∨ r' x y H Q
theorem rv_inl {r r' : R2} (h : RV r x y z) : RV (rOr r r') x y z := fun B H1 v w e r1 r2 Q q => .inl (h B H1 v w e r1 r2 Q q)
theorem rv_inr {r r' : R2} (h : RV r' x y z) : RV (rOr r r') x y z := fun B H1 v w e r1 r2 Q q => .inr (h B H1 v w e r1 r2 Q q)
theorem rv_eqI : RV rEq (.int i) (.int j) (.bl (decide (i = j))) := fun B H1 v w e r1 r2 Q q => by
  cases r1; cases r2
  exact ⟨rfl, q _ B H1 (New.refl e) (by have : decide (V.int i = V.int j) = decide (i = j) := by simp
                                        rw [this]; exact .bl _)⟩
theorem rv_neI : RV rNe (.int i) (.int j) (.bl (!decide (i = j))) := fun B H1 v w e r1 r2 Q q => by
  cases r1; cases r2
  exact ⟨rfl, q _ B H1 (New.refl e) (by have : decide (V.int i = V.int j) = decide (i = j) := by simp
                                        rw [this]; exact .bl _)⟩
theorem rv_eqS {s s' : Str} : RV rEq (.str s) (.str s') (.bl (decide (s = s'))) := fun B H1 v w e r1 r2 Q q => by
  cases r1; cases r2
  exact ⟨rfl, q _ B H1 (New.refl e) (by have : decide (V.str s = V.str s') = decide (s = s') := by simp
                                        rw [this]; exact .bl _)⟩
theorem rv_neS {s s' : Str} : RV rNe (.str s) (.str s') (.bl (!decide (s = s'))) := fun B H1 v w e r1 r2 Q q => by
  cases r1; cases r2
  exact ⟨rfl, q _ B H1 (New.refl e) (by have : decide (V.str s = V.str s') = decide (s = s') := by simp
                                        rw [this]; exact .bl _)⟩
theorem rv_eqD (h1 : SeqAt.shaped x.py = true) (h2 : SeqAt.shaped y.py = true) : RV (rEqD K) x y (.bl (PyData.eqv x.py y.py)) := fun B H1 v w e r1 r2 Q q =>
  ⟨_, _, (r1.mono e).dp (shaped_cln h1), (r2.mono e).dp (shaped_cln h2), h1, h2, q _ B H1 (New.refl e) (.bl _)⟩
theorem rv_neD (h1 : SeqAt.shaped x.py = true) (h2 : SeqAt.shaped y.py = true) : RV (rNeD K) x y (.bl (!PyData.eqv x.py y.py)) := fun B H1 v w e r1 r2 Q q =>
  ⟨_, _, (r1.mono e).dp (shaped_cln h1), (r2.mono e).dp (shaped_cln h2), h1, h2, q _ B H1 (New.refl e) (.bl _)⟩
/-- a place of a list, of a tuple -/
theorem atI_RA {vs : List V} {ds : List Dt} (h : RA B vs ds) (ha : atI ds i = some d) : ∃ v, atI vs i = some v ∧ R B v d := by
  unfold atI at ha ⊢
  rw [h.len]
  cases q : ixN ds.length i with
  | none => rw [q] at ha; cases ha
  | some k =>
    rw [q] at ha
    exact h.get ha
theorem rv_ixL (ha : atI ds i = some d) : RV (rIx K) (.lst ds) (.int i) d := fun B H1 v w e r1 r2 Q q => by
  cases r2
  obtain ⟨p, vs, rfl, hp, ra⟩ := r1.lst_inv
  obtain ⟨v, hv, rv⟩ := atI_RA ra ha
  exact .inl ⟨p, vs, i, v, rfl, rfl, sq_of (e _ _ hp), hv, q v B H1 (New.refl e) rv⟩
theorem rv_ixT (ha : atI ds i = some d) : RV (rIx K) (.tup ds) (.int i) d := fun B H1 v w e r1 r2 Q q => by
  cases r2
  obtain ⟨p, vs, rfl, hp, ra⟩ := r1.tup_inv
  obtain ⟨v, hv, rv⟩ := atI_RA ra ha
  exact .inr (.inl ⟨p, vs, i, v, rfl, rfl, st_of (e _ _ hp), hv, q v B H1 (New.refl e) rv⟩)
/-- lists one behind the other -/
theorem rv_cat {es : List Dt} (h : ds.length + es.length ≤ 100000) : RV rCat (.lst ds) (.lst es) (.lst (ds ++ es)) := fun B H1 v w e r1 r2 Q q => by
  obtain ⟨p, vs, rfl, hp, ra⟩ := r1.lst_inv
  obtain ⟨p2, vs2, rfl, hp2, ra2⟩ := r2.lst_inv
  refine ⟨p, p2, vs, vs2, rfl, rfl, e _ _ hp, e _ _ hp2, by rw [ra.len, ra2.len]; exact sz_of h, fun p hp => ?_⟩
  exact q _ (upd B p (.lst (vs ++ vs2))) _ (New.one e hp) (.lst upd_same ((ra.append ra2).mono (Ex.new (fresh_back e hp))))

/-! ### calls of built-ins -/
theorem rl_lenL : RL (rLenS K) [.lst ds] (.int (ds.length : Int)) := fun B H1 vs e ra Q q => by
  cases ra with | cons r1 r2 =>
  cases r2
  obtain ⟨p, vs, rfl, hp, ra⟩ := r1.lst_inv
  exact ⟨p, vs, rfl, .inl (sq_of (e _ _ hp)), q _ B H1 (New.refl e) (by rw [ra.len]; exact .int _)⟩
theorem rl_lenT : RL (rLenS K) [.tup ds] (.int (ds.length : Int)) := fun B H1 vs e ra Q q => by
  cases ra with | cons r1 r2 =>
  cases r2
  obtain ⟨p, vs, rfl, hp, ra⟩ := r1.tup_inv
  exact ⟨p, vs, rfl, .inr (st_of (e _ _ hp)), q _ B H1 (New.refl e) (by rw [ra.len]; exact .int _)⟩
theorem rl_list : RL (rListS K) [.lst ds] (.lst ds) := fun B H1 vs e ra Q q => by
  cases ra with | cons r1 r2 =>
  cases r2
  obtain ⟨p, vs, rfl, hp, ra⟩ := r1.lst_inv
  exact ⟨p, vs, rfl, .inl (sq_of (e _ _ hp)), fun l hl => q _ (upd B l (.lst vs)) _ (New.one e hl) (.lst upd_same (ra.mono (Ex.new (fresh_back e hl))))⟩
theorem rl_listT : RL (rListS K) [.tup ds] (.lst ds) := fun B H1 vs e ra Q q => by
  cases ra with | cons r1 r2 =>
  cases r2
  obtain ⟨p, vs, rfl, hp, ra⟩ := r1.tup_inv
  exact ⟨p, vs, rfl, .inr (st_of (e _ _ hp)), fun l hl => q _ (upd B l (.lst vs)) _ (New.one e hl) (.lst upd_same (ra.mono (Ex.new (fresh_back e hl))))⟩
def rTupleS (K : PySem.W.Frag) : List V → Hp → VK → Prop := fun xs H Q => ∃ p ys, xs = [.ref p] ∧ ((SqL K H p ys ∧ ∀ l, H l = none → Q (.ref l) (upd H l (.tup ys))) ∨ (SqT K H p ys ∧ Q (.ref p) H))
theorem rl_tuple : RL (rTupleS K) [.lst ds] (.tup ds) := fun B H1 vs e ra Q q => by
  cases ra with | cons r1 r2 =>
  cases r2
  obtain ⟨p, vs, rfl, hp, ra⟩ := r1.lst_inv
  exact ⟨p, vs, rfl, .inl ⟨sq_of (e _ _ hp), fun l hl => q _ (upd B l (.tup vs)) _ (New.one e hl) (.tup upd_same (ra.mono (Ex.new (fresh_back e hl))))⟩⟩
def rAbs : List V → Hp → VK → Prop := fun xs H Q => ∃ i, xs = [.int i] ∧ Q (.int (if i < 0 then -i else i)) H
theorem rl_abs : RL rAbs [.int i] (.int (if i < 0 then -i else i)) := fun B H1 vs e ra Q q => by
  cases ra with | cons r1 r2 =>
  cases r1; cases r2
  exact ⟨i, rfl, q _ B H1 (New.refl e) (.int _)⟩
def rInt1 : List V → Hp → VK → Prop := fun xs H Q => (∃ i, xs = [.int i] ∧ Q (.int i) H) ∨ ∃ k, xs = [.bl k] ∧ Q (.int (if k then 1 else 0)) H
theorem rl_int : RL rInt1 [.int i] (.int i) := fun B H1 vs e ra Q q => by
  cases ra with | cons r1 r2 =>
  cases r1; cases r2
  exact .inl ⟨i, rfl, q _ B H1 (New.refl e) (.int _)⟩
def rMax2 : List V → Hp → VK → Prop := fun xs H Q => ∃ i j, xs = [.int i, .int j] ∧ Q (.int (if j > i then j else i)) H
def rMin2 : List V → Hp → VK → Prop := fun xs H Q => ∃ i j, xs = [.int i, .int j] ∧ Q (.int (if j < i then j else i)) H
theorem rl_max2 : RL rMax2 [.int i, .int j] (.int (if j > i then j else i)) := fun B H1 vs e ra Q q => by
  cases ra with | cons r1 r2 =>
  cases r2 with | cons r2 r3 =>
  cases r1; cases r2; cases r3
  exact ⟨i, j, rfl, q _ B H1 (New.refl e) (.int _)⟩
theorem rl_min2 : RL rMin2 [.int i, .int j] (.int (if j < i then j else i)) := fun B H1 vs e ra Q q => by
  cases ra with | cons r1 r2 =>
  cases r2 with | cons r2 r3 =>
  cases r1; cases r2; cases r3
  exact ⟨i, j, rfl, q _ B H1 (New.refl e) (.int _)⟩
theorem rl_repr (hq : isSeq d = true) (f : Fit d) : RL (fun xs H Q => rRepr H xs Q) [d] (.str d.py.shown) := fun B H1 vs e ra Q q => by
  cases ra with | cons r1 r2 =>
  cases r2
  exact ⟨_, d, rfl, r1.mono e, hq, f, q _ B H1 (New.refl e) (.str _)⟩
theorem rl_all {α : Type} {l : List α} {p : α → Bool} : RL (rAll K) [.lst (l.map fun a => Dt.bl (p a))] (.bl (l.all p)) := fun B H1 vs e ra Q q => by
  cases ra with | cons r1 r2 =>
  cases r2
  obtain ⟨a, vs, rfl, hp, ra⟩ := r1.lst_inv
  refine ⟨a, l.map p, rfl, sq_of (by rw [← ra.bls_inv]; exact e _ _ hp), ?_⟩
  have : (l.map p).all id = l.all p := by rw [List.all_map]; rfl
  rw [this]
  exact q _ B H1 (New.refl e) (.bl _)
/-- the least of ints (0 for none) -/
def minL : List Int → Int
  | [] => 0
  | x :: xs => xs.foldl (fun a b => if b < a then b else a) x
theorem minL_go : ∀ (xs : List Int) (a : Int), (xs.foldl (fun a b => if b < a then b else a) a ∈ a :: xs) ∧ ∀ y ∈ a :: xs, xs.foldl (fun a b => if b < a then b else a) a ≤ y
  | [], a => by simp
  | x :: xs, a => by
    rw [List.foldl_cons]
    obtain ⟨h1, h2⟩ := minL_go xs (if x < a then x else a)
    have hm : (if x < a then x else a) ≤ a ∧ (if x < a then x else a) ≤ x := by split <;> constructor <;> omega
    constructor
    · rcases List.mem_cons.mp h1 with e | e
      · rw [e]
        split
        · exact List.mem_cons_of_mem _ List.mem_cons_self
        · exact List.mem_cons_self
      · exact List.mem_cons_of_mem _ (List.mem_cons_of_mem _ e)
    · intro y hy
      have h3 := h2 _ List.mem_cons_self
      rcases List.mem_cons.mp hy with e | hy
      · rw [e]; omega
      · rcases List.mem_cons.mp hy with e | hy
        · rw [e]; omega
        · exact h2 y (List.mem_cons_of_mem _ hy)
theorem minL_mem {xs : List Int} (h : xs ≠ []) : minL xs ∈ xs := by
  cases xs with
  | nil => exact absurd rfl h
  | cons x xs => exact (minL_go xs x).1
theorem minL_le {xs : List Int} {y : Int} (h : y ∈ xs) : minL xs ≤ y := by
  cases xs with
  | nil => cases h
  | cons x xs => exact (minL_go xs x).2 y h
theorem minL_eq {xs : List Int} {m : Int} (h1 : m ∈ xs) (h2 : ∀ y ∈ xs, m ≤ y) : m = minL xs :=
  Int.le_antisymm (h2 _ (minL_mem (fun e => by rw [e] at h1; cases h1))) (minL_le h1)
theorem rl_min {α : Type} {l : List α} {g : α → Int} (h : l ≠ []) : RL (L2.rMin K) [.lst (l.map fun a => Dt.int (g a))] (.int (minL (l.map g))) := fun B H1 vs e ra Q q => by
  cases ra with | cons r1 r2 =>
  cases r2
  obtain ⟨a, vs, rfl, hp, ra⟩ := r1.lst_inv
  refine ⟨a, l.map g, rfl, sq_of (by rw [← ra.intsf_inv]; exact e _ _ hp), ?_, fun m h1 h2 => ?_⟩
  · rw [List.length_map]; exact List.length_pos_iff.mpr h
  · rw [minL_eq h1 h2]; exact q _ B H1 (New.refl e) (.int _)

/-! ### what kind a value is of -/
def Dt.kind : Dt → String
  | .non => "NoneType" | .bl _ => "bool" | .int _ => "int" | .str _ => "str" | .lst _ => "list" | .tup _ => "tuple" | .exc _ | .con _ => ""
def Dt.isE : Dt → Bool
  | .exc _ | .con _ => true
  | _ => false
theorem R.kind {v : V} (e : Ex B H) (h : R B v d) (ne : d.isE = false) : zTyV v H = some d.kind := by
  cases h with
  | lst h _ => simp only [zTyV, e _ _ h, Dt.kind]
  | tup h _ => simp only [zTyV, e _ _ h, Dt.kind]
  | exc _ => cases ne
  | con _ => cases ne
  | _ => rfl
theorem R.tyx {v : V} (e : Ex B H) (h : R B v d) (ne : d.isE = false) : TyX K H v (.type d.kind) := by
  cases h with
  | non => exact .base .non
  | bl b => exact .base (.bl b)
  | int b => exact .base (.int b)
  | str b => exact .base (.str b)
  | lst h _ => exact .base (.lst (e _ _ h))
  | tup h _ => exact .base (.tup (e _ _ h))
  | exc _ => cases ne
  | con _ => cases ne
/-- a held error is an instance -/
theorem inst_of {X : Cx} {pins : List (Addr × Obj)} {s : Shared} {σ : L2.St} {a C : Addr} (I : Inv X pins σ H s) (h : HasE H a C) : ∃ oe od, PySem.W.InstAt s.heap a oe C od := by
  rcases h with ha | ⟨dx, fs, ha, hd⟩
  · obtain ⟨⟨oe, vs, ho, hz, hd, _⟩, _, _⟩ := I.hok a _ ha
    refine ⟨oe, none, ?_⟩
    obtain ⟨oc, od, oda, osl⟩ := oe
    obtain ⟨h1, h2⟩ := hz
    dsimp only at h1 h2 hd
    subst h1 h2 hd
    exact ⟨ho, rfl, rfl, trivial⟩
  · obtain ⟨t1, ho⟩ := exo_at I.hok ha
    obtain ⟨mA, hns, _⟩ := exd_at I.hok hd
    obtain ⟨od, ho2, _⟩ := lookIn_ns hns
    exact ⟨_, some od, ho, rfl, rfl, ho2⟩
/-- type(x), x perhaps an error -/
def kTypX (x : V) (H : Hp) (Q : VK) : Prop := kTyp x H Q ∨ ∃ a C, x = .ref a ∧ HasE H a C ∧ Q (.ref C) H
theorem rl_typeX {X : Cx} (pins : List (Addr × Obj)) (s : Shared) (σ : L2.St) (H : Hp) (x : V) (v : Value) (Q : VK) (I : Inv X pins σ H s) (r : RelV x v) (h : kTypX x H Q) :
    wpAny (model X.prog X.w) X.A (call (.type "type") [v]) (EP X pins σ Q) X.xe s := by
  rcases h with h | ⟨a, C, rfl, ha, q⟩
  · exact rl_type pins s σ H x v Q I r h
  · cases (show v = Value.ref a from r)
    obtain ⟨oe, od, J⟩ := inst_of I ha
    exact PySem.W.kto_own J ⟨.ref C, H, I, rfl, q⟩
def tThenX (ta : TE) : TE := fun σ H Q => ta σ H fun x H1 => kTypX x H1 Q
theorem pe_typeX {X : Cx} {a : Expr} {p pos : Pos} {ta : TE} (hg : Gl X "type") (hm : X.mg "type" = none) (ha : PE X a ta) (na : starEach [a] X.env = (false, eval a X.env) :: starEach [] X.env := by rfl) :
    PE X (.Call (.Name "type" p) [a] [] pos) (tThenX ta) := pe_callTy (call_r1 rl_typeX) hg hm (by decide +kernel) (pa_cons ha pa_nil na) (he := na)
def rIsTy : R2 := fun x y H Q => (∃ m n, x = .ty m ∧ y = .ty n ∧ Q (.bl (decide (m = n))) H) ∨ ∃ C n, x = .ref C ∧ y = .ty n ∧ Q (.bl false) H
theorem op_isTX {X : Cx} : OpR X (compareOp .Is) rIsTy := by
  intro pins s σ H x y v u Q I rx ry h
  rcases h with h | ⟨C, n, rfl, rfl, q⟩
  · exact op_isTy pins s σ H x y v u Q I rx ry h
  · cases (show v = Value.ref C from rx)
    cases (show u = Value.type n from ry)
    exact wpAny_is_other rfl (fun z => nomatch z) ⟨.bl false, H, I, rfl, q⟩
def Dt.isC : Dt → Bool
  | .con _ => true
  | _ => false
/-- type(x) is T -/
theorem ev_isTy {n : String} (h : EvR ta σ B d) (hn : n ≠ "" := by decide) (nc : d.isC = false := by first | rfl | assumption) : EvR (tOp rIsTy (tThenX ta) (tC (.ty n))) σ B (.bl (decide (d.kind = n))) := fun H1 e Q q =>
  h H1 e _ fun v B2 H2 nw rv => by
    by_cases ne : d.isE = false
    · exact .inl ⟨_, rv.kind nw.sub ne, .inl ⟨_, _, rfl, rfl, q _ B2 H2 nw (.bl _)⟩⟩
    · cases rv with
      | exc hE =>
        refine .inr ⟨_, _, rfl, hE.mono nw.sub, .inr ⟨_, _, rfl, rfl, ?_⟩⟩
        have e0 : ∀ C : Addr, decide ((Dt.exc C).kind = n) = false := fun C => decide_eq_false fun z => hn z.symm
        rw [e0] at q
        exact q _ B2 H2 nw (.bl _)
      | con _ => cases nc
      | _ => exact absurd rfl ne
/-- isinstance(x, T) -/
theorem ev_isi {n : String} {r : Bool} (h : EvR ta σ B d) (hk : kitB d.kind n = some r) (ne : d.isE = false := by rfl) : EvR (tCB (rIsi K) (tCons ta (tCons (tC (.ty n)) tNil))) σ B (.bl r) := fun H1 e Q q =>
  h H1 e _ fun v B2 H2 nw rv => ⟨v, _, _, _, r, rfl, .ty n, rv.tyx nw.sub ne, kit_ty hk, q _ B2 H2 nw (.bl _)⟩
end
end U

namespace U
open PySem L2 Evl

section
variable {K : PySem.W.Frag} {σ : L2.St} {B B' H : Hp} {ta tb te : TE} {t u : TT} {tl tr tk : TA} {x y z d e : Dt} {xs ds es : List Dt} {r : R2} {a b : Bool} {i j : Nat} {D : Ends} {tu tw tz : TS} {g : TG}
/-- the heap alone has grown -/
structure Up (B H H1 : Hp) : Prop where
  old : Ex B H
  sub : Ex B H1
  heap : Ex H H1
theorem Up.new {B H H1 : Hp} (u : Up B H H1) : New B H B H1 := New.grow u.sub u.heap u.old
/-! ### statements -/
theorem s_asg (e : Ex B H) (h : EvR te σ B d) (k : ∀ v B1 H1, New B H B1 H1 → R B1 v d → D.nx (σ.set i (some v)) H1) : tAsg te (gName i) D σ H := h H e _ k
theorem s_ret (e : Ex B H) (h : EvR te σ B d) (k : ∀ v B1 H1, New B H B1 H1 → R B1 v d → D.rt v H1) : tRet te D σ H := h H e _ k
theorem s_retE (e : Ex B H) (h : EvR te σ B x) (q : x = d) (k : ∀ v B1 H1, New B H B1 H1 → R B1 v d → D.rt v H1) : tRet te D σ H := h H e _ fun v B1 H1 n rv => k v B1 H1 n (q ▸ rv)
theorem s_drop (e : Ex B H) (h : EvR te σ B d) (k : ∀ H1, Up B H H1 → D.nx σ H1) : tDrop te D σ H := h H e _ fun v B1 H1 n _ => k H1 ⟨e, e.trans n.heap, n.heap⟩
theorem s_if (e : Ex B H) (h : EvC t σ B b) (h1 : b = true → ∀ H1, Up B H H1 → tu D σ H1) (h2 : b = false → ∀ H1, Up B H H1 → tw D σ H1) : tIfS t tu tw D σ H := h H e _ fun H2 e2 => by
  cases b with
  | true => exact h1 rfl H2 ⟨e, e.trans e2, e2⟩
  | false => exact h2 rfl H2 ⟨e, e.trans e2, e2⟩
theorem s_next (h : D.nx σ H) : tNext D σ H := h
theorem s_seq (h : tu { D with nx := tz D } σ H) : tSeq tu tz D σ H := h
/-- a, b = e -/
theorem s_asg2 (e : Ex B H) (h : EvR te σ B (.tup [x, y])) (k : ∀ v w B1 H1, New B H B1 H1 → R B1 v x → R B1 w y → D.nx ((σ.set i (some v)).set j (some w)) H1) :
    tAsg te (gTup K 2 (gCons (gName i) (gCons (gName j) gNil))) D σ H := h H e _ fun v B1 H1 n rv => by
  obtain ⟨p, vs, rfl, hp, ra⟩ := rv.tup_inv
  cases ra with | cons r1 ra =>
  cases ra with | cons r2 ra =>
  cases ra
  exact ⟨p, _, rfl, st_of (n.sub _ _ hp), rfl, _, _, rfl, _, _, rfl, rfl, k _ _ B1 H1 n r1 r2⟩
/-- a, b = e1, e2 -/
theorem s_par (e : Ex B H) (h : EvRA tl σ B [x, y]) (k : ∀ v w B1 H1, New B H B1 H1 → R B1 v x → R B1 w y → D.nx ((σ.set i (some v)).set j (some w)) H1) : tPar i j tl D σ H := h H e _ fun vs B1 H1 n ra => by
  cases ra with | cons r1 ra =>
  cases ra with | cons r2 ra =>
  cases ra
  exact ⟨_, _, rfl, k _ _ B1 H1 n r1 r2⟩
/-- x = [] -/
theorem s_new (e : Ex B H) (k : ∀ p H1, H p = none → B p = none → H1 = upd H p (.lst []) → Up B H H1 → D.nx (σ.set i (some (.ref p))) H1) : tAsg (tLst tNil) (gName i) D σ H :=
  ⟨Nat.zero_le _, fun p hp => k p _ hp (fresh_back e hp) rfl ⟨e, Ex.mut e (fresh_back e hp), Ex.new hp⟩⟩
/-- a list of one's own -/
structure Own (H0 B H : Hp) (p : Addr) (xs : List V) : Prop where
  h0 : H0 p = none
  b : B p = none
  h : H p = some (.lst xs)
theorem Own.step {H0 B H B1 H1 : Hp} {p : Addr} {xs : List V} (o : Own H0 B H p xs) (n : New B H B1 H1) : Own H0 B1 H1 p xs :=
  ⟨o.h0, n.fresh p o.b (by rw [o.h]; simp), n.heap _ _ o.h⟩
theorem Own.put {H0 B H : Hp} {p : Addr} {xs ys : List V} (o : Own H0 B H p xs) : Own H0 B (upd H p (.lst ys)) p ys := ⟨o.h0, o.b, upd_same⟩
theorem Own.other {H0 B H : Hp} {p q : Addr} {xs : List V} {u : HO} (o : Own H0 B H p xs) (h : p ≠ q) : Own H0 B (upd H q u) p xs := ⟨o.h0, o.b, by rw [upd_ne h]; exact o.h⟩
theorem New.put {B0 H0 B H : Hp} {p : Addr} {xs : List V} {u : HO} (n : New B0 H0 B H) (o : Own H0 B H p xs) : New B0 H0 B (upd H p u) :=
  ⟨n.ext, Ex.mut n.sub o.b, Ex.mut n.heap o.h0, n.fresh⟩
/-- it is handed on as data -/
theorem New.give {B0 H0 B H : Hp} {p : Addr} {xs : List V} (n : New B0 H0 B H) (o : Own H0 B H p xs) : New B0 H0 (upd B p (.lst xs)) H := by
  refine ⟨n.ext.trans (Ex.new o.b), fun q u h => ?_, n.heap, fun q h1 h2 => ?_⟩
  · by_cases hq : q = p
    · subst hq; rw [upd_same] at h; cases h; exact o.h
    · rw [upd_ne hq] at h; exact n.sub q u h
  · rw [upd_ne (fun z => by subst z; exact h2 o.h0)]; exact n.fresh q h1 h2
theorem Own.data {H0 B H : Hp} {p : Addr} {xs : List V} {ds : List Dt} (o : Own H0 B H p xs) (r : RA B xs ds) : R (upd B p (.lst xs)) (.ref p) (.lst ds) := .lst upd_same (r.mono (Ex.new o.b))
/-- p.append(e) -/
theorem s_app {H0 : Hp} {p : Addr} {vs : List V} {n : Nat} (e : Ex B H) (o : Own H0 B H p vs) (hv : σ[n]? = some (some (.ref p))) (h : EvR te σ B d) (hz : vs.length < 100000)
    (k : ∀ v B1 H1, New B H B1 H1 → Own H0 B1 H1 p vs → R B1 v d → D.nx σ (upd H1 p (.lst (vs ++ [v])))) : tDrop (tBM K "list" rAppend (tVar n) (tCons te tNil)) D σ H :=
  ⟨_, hv, .inl ⟨rfl, _, .inl (.inl o.h)⟩, h H e _ fun v B1 H1 nw rv => ⟨p, vs, v, rfl, rfl, (o.step nw).h, sz_lt hz, k v B1 H1 nw (o.step nw) rv⟩⟩

/-! ### loops -/
theorem s_forL (e : Ex B H) (h : EvR te σ B (.lst ds)) (Pv : Hp → Hp → Nat → L2.St → Hp → Prop) (h0 : ∀ B1 H1, New B H B1 H1 → Pv B1 H1 0 σ H1) (hx : ∀ B1 H1 i σ' H', Pv B1 H1 i σ' H' → Ex B1 H')
    (hs : ∀ B1 H1 i d v σ' H', New B H B1 H1 → ds[i]? = some d → R B1 v d → Pv B1 H1 i σ' H' → g v σ' H' fun σ2 H2 => tu { D with nx := Pv B1 H1 (i + 1), ct := Pv B1 H1 (i + 1), bk := D.nx } σ2 H2)
    (hd : ∀ B1 H1 σ' H', New B H B1 H1 → Pv B1 H1 ds.length σ' H' → D.nx σ' H') : tFor (iList K te) g tu D σ H := h H e _ fun v B1 H1 n rv => by
  obtain ⟨p, vs, rfl, hp, ra⟩ := rv.lst_inv
  refine ⟨p, rfl, ⟨vs, sq_of (n.sub _ _ hp)⟩, for_list (K := K) (a := p) (xs := vs) (Pv B1 H1) (h0 B1 H1 n) (fun i σ' H' _ q => sq_of (hx B1 H1 i σ' H' q _ _ hp)) (fun i v σ' H' hi q => ?_) (fun σ' H' q => hd B1 H1 σ' H' n (by rw [← ra.len]; exact q))⟩
  obtain ⟨d, hd', rd⟩ := ra.getV hi
  exact hs B1 H1 i d v σ' H' n hd' rd q
theorem s_forT (e : Ex B H) (h : EvR te σ B (.tup ds)) (Pv : Hp → Hp → Nat → L2.St → Hp → Prop) (h0 : ∀ B1 H1, New B H B1 H1 → Pv B1 H1 0 σ H1) (hx : ∀ B1 H1 i σ' H', Pv B1 H1 i σ' H' → Ex B1 H')
    (hs : ∀ B1 H1 i d v σ' H', New B H B1 H1 → ds[i]? = some d → R B1 v d → Pv B1 H1 i σ' H' → g v σ' H' fun σ2 H2 => tu { D with nx := Pv B1 H1 (i + 1), ct := Pv B1 H1 (i + 1), bk := D.nx } σ2 H2)
    (hd : ∀ B1 H1 σ' H', New B H B1 H1 → Pv B1 H1 ds.length σ' H' → D.nx σ' H') : tFor (iTup K te) g tu D σ H := h H e _ fun v B1 H1 n rv => by
  obtain ⟨p, vs, rfl, hp, ra⟩ := rv.tup_inv
  refine ⟨p, rfl, ⟨vs, st_of (n.sub _ _ hp)⟩, for_tup (K := K) (a := p) (xs := vs) (Pv B1 H1) (h0 B1 H1 n) (fun i σ' H' _ q => st_of (hx B1 H1 i σ' H' q _ _ hp)) (fun i v σ' H' hi q => ?_) (fun σ' H' q => hd B1 H1 σ' H' n (by rw [← ra.len]; exact q))⟩
  obtain ⟨d, hd', rd⟩ := ra.getV hi
  exact hs B1 H1 i d v σ' H' n hd' rd q
/-- for j in range(n) -/
theorem s_forR {n : Int} (e : Ex B H) (h : EvRA tl σ B [.int n]) (hn : 0 ≤ n ∧ n ≤ 1000000) (Pv : Nat → L2.St → Hp → Prop) (h0 : ∀ H1, Up B H H1 → Pv 0 σ H1)
    (hs : ∀ (i : Nat) σ' H', (i : Int) < n → Pv i σ' H' → tu { D with nx := Pv (i + 1), ct := Pv (i + 1), bk := D.nx } (σ'.set j (some (.int (i : Int)))) H') (hd : ∀ σ' H', Pv n.toNat σ' H' → D.nx σ' H') :
    tFor (iRng1 tl) (gName j) tu D σ H := h H e _ fun vs B1 H1 nw ra => by
  cases ra with | cons r1 ra =>
  cases r1; cases ra
  refine ⟨n, rfl, by omega, by omega, for_range (lo := 0) (n := n.toNat) Pv (h0 H1 ⟨e, e.trans nw.heap, nw.heap⟩) (fun i σ' H' hi q => ?_) hd⟩
  have e0 : (0 : Int) + (i : Int) = (i : Int) := Int.zero_add _
  rw [e0]
  exact hs i σ' H' (by omega) q

/-! ### comprehensions -/
def LcI (B1 H1 : Hp) (p : Addr) (out : Nat → List Dt) (i : Nat) (H' : Hp) : Prop := ∃ B' acc, New B1 H1 B' H' ∧ Own H1 B' H' p acc ∧ RA B' acc (out i)
theorem lcI_start {B1 H1 : Hp} {p : Addr} {out : Nat → List Dt} (e : Ex B1 H1) (hp : H1 p = none) (h0 : out 0 = []) : LcI B1 H1 p out 0 (upd H1 p (.lst [])) :=
  ⟨B1, [], ⟨Ex.refl _, Ex.mut e (fresh_back e hp), Ex.new hp, fun _ h _ => h⟩, ⟨hp, fresh_back e hp, upd_same⟩, by rw [h0]; exact .nil⟩
theorem lcI_turn {B1 H1 H' : Hp} {p : Addr} {out : Nat → List Dt} {i : Nat} {c : Bool} {σ2 : L2.St} (q : LcI B1 H1 p out i H') (hz : (out i).length < 100000) (ht : EvC t σ2 B1 c) (he : c = true → EvR te σ2 B1 d)
    (hs : out (i + 1) = if c = true then out i ++ [d] else out i) :
    t σ2 H' fun b H3 => if b = true then te σ2 H3 fun y H4 => ∃ acc, H4 p = some (.lst acc) ∧ acc.length < sizeLine ∧ LcI B1 H1 p out (i + 1) (upd H4 p (.lst (acc ++ [y]))) else LcI B1 H1 p out (i + 1) H3 := by
  obtain ⟨B', acc, n, o, ra⟩ := q
  refine ht H' (n.ext.trans n.sub) _ fun H3 e3 => ?_
  have n3 : New B' H' B' H3 := New.grow (n.sub.trans e3) e3 n.sub
  cases c with
  | true =>
    show te σ2 H3 _
    refine ((he rfl).mono n.ext) H3 n3.sub _ fun v B4 H4 n4 rv => ?_
    have o4 := (o.step n3).step n4
    refine ⟨acc, o4.h, sz_lt (by rw [ra.len]; exact hz), B4, acc ++ [v], (((n.trans n3).trans n4).put o4), o4.put, ?_⟩
    rw [hs]
    exact (ra.mono n4.ext).append (RA.one rv)
  | false =>
    show LcI B1 H1 p out (i + 1) H3
    exact ⟨B', acc, n.trans n3, o.step n3, by rw [hs]; exact ra⟩
theorem outs_step {α : Type} {l : List α} {c : α → Bool} {f : α → Dt} {i : Nat} {q : α} (h : l[i]? = some q) : ((l.take (i + 1)).filter c).map f = if c q = true then ((l.take i).filter c).map f ++ [f q] else ((l.take i).filter c).map f := by
  rw [List.take_add_one, h, Option.toList_some, List.filter_append, List.map_append]
  by_cases hc : c q = true
  · rw [if_pos hc, List.filter_cons, if_pos hc]; rfl
  · rw [if_neg hc, List.filter_cons, if_neg hc]
    show _ ++ [] = _
    rw [List.append_nil]
theorem outs_len {α : Type} {l : List α} {c : α → Bool} {f : α → Dt} (i : Nat) : (((l.take i).filter c).map f).length ≤ l.length := by
  rw [List.length_map]
  exact Nat.le_trans (List.length_filter_le _ _) (by rw [List.length_take]; omega)
/-- [te for j in tl if t], over a list of the data enc q -/
theorem ev_lc {α : Type} {l : List α} {enc : α → Dt} {c : α → Bool} {f : α → Dt} {vs : List Nat} (h : EvR ta σ B (.lst (l.map enc))) (hz : l.length < 100000) (hw : ∀ x, wipe ((wipe σ vs).set j (some x)) vs = wipe σ vs)
    (ht : ∀ q v B1, q ∈ l → Ex B B1 → R B1 v (enc q) → EvC t ((wipe σ vs).set j (some v)) B1 (c q)) (he : ∀ q v B1, q ∈ l → Ex B B1 → R B1 v (enc q) → c q = true → EvR te ((wipe σ vs).set j (some v)) B1 (f q)) :
    EvR (tLc (iList K ta) (gName j) t te vs) σ B (.lst ((l.filter c).map f)) := fun H0 e0 Q k => h H0 e0 _ fun v B1 H1 n rv => by
  obtain ⟨p, us, rfl, hp, ra⟩ := rv.lst_inv
  refine ⟨p, rfl, ⟨us, sq_of (n.sub _ _ hp)⟩, fun q hq => ?_⟩
  have hl : us.length = l.length := by rw [ra.len, List.length_map]
  refine lc_list (xs := us) (LcI B1 H1 q fun i => ((l.take i).filter c).map f) (lcI_start n.sub hq rfl) (fun i H' _ z => ?_) (fun i x H' hi z => ⟨hw x, ?_⟩) (fun H' z => ?_)
  · obtain ⟨B', acc, n', _, _⟩ := z
    exact sq_of (n'.sub _ _ (n'.ext _ _ hp))
  · obtain ⟨d, hd, rd⟩ := ra.getV hi
    rw [List.getElem?_map] at hd
    cases hq' : l[i]? with
    | none => rw [hq'] at hd; cases hd
    | some a =>
      rw [hq'] at hd
      cases hd
      have hm := List.mem_of_getElem? hq'
      exact lcI_turn z (Nat.lt_of_le_of_lt (outs_len i) hz) (ht a x B1 hm n.ext rd) (fun hc => he a x B1 hm n.ext rd hc) (outs_step hq')
  · obtain ⟨B', acc, n', o, ra'⟩ := z
    rw [hl] at ra'
    have ra' : RA B' acc (((l.take l.length).filter c).map f) := ra'
    rw [List.take_length] at ra'
    exact k _ _ H' ((n.trans (n'.give ⟨o.h0, o.b, o.h⟩))) (o.data ra')
/-- without a test -/
theorem ev_lc1 {α : Type} {l : List α} {enc : α → Dt} {f : α → Dt} {vs : List Nat} (h : EvR ta σ B (.lst (l.map enc))) (hz : l.length < 100000) (hw : ∀ x, wipe ((wipe σ vs).set j (some x)) vs = wipe σ vs)
    (he : ∀ q v B1, q ∈ l → Ex B B1 → R B1 v (enc q) → EvR te ((wipe σ vs).set j (some v)) B1 (f q)) : EvR (tLc (iList K ta) (gName j) tYes te vs) σ B (.lst (l.map f)) := by
  have g := ev_lc (K := K) (t := tYes) (c := fun _ => true) (f := f) h hz hw (fun _ _ _ _ _ _ => ec_yes) (fun q v B1 h1 h2 h3 _ => he q v B1 h1 h2 h3)
  rw [List.filter_eq_self.mpr (fun _ _ => rfl)] at g
  exact g
/-- over a tuple -/
theorem ev_lcT {α : Type} {l : List α} {enc : α → Dt} {c : α → Bool} {f : α → Dt} {vs : List Nat} (h : EvR ta σ B (.tup (l.map enc))) (hz : l.length < 100000) (hw : ∀ x, wipe ((wipe σ vs).set j (some x)) vs = wipe σ vs)
    (ht : ∀ q v B1, q ∈ l → Ex B B1 → R B1 v (enc q) → EvC t ((wipe σ vs).set j (some v)) B1 (c q)) (he : ∀ q v B1, q ∈ l → Ex B B1 → R B1 v (enc q) → c q = true → EvR te ((wipe σ vs).set j (some v)) B1 (f q)) :
    EvR (tLc (iTup K ta) (gName j) t te vs) σ B (.lst ((l.filter c).map f)) := fun H0 e0 Q k => h H0 e0 _ fun v B1 H1 n rv => by
  obtain ⟨p, us, rfl, hp, ra⟩ := rv.tup_inv
  refine ⟨p, rfl, ⟨us, st_of (n.sub _ _ hp)⟩, fun q hq => ?_⟩
  have hl : us.length = l.length := by rw [ra.len, List.length_map]
  refine lc_tup (xs := us) (LcI B1 H1 q fun i => ((l.take i).filter c).map f) (lcI_start n.sub hq rfl) (fun i H' _ z => ?_) (fun i x H' hi z => ⟨hw x, ?_⟩) (fun H' z => ?_)
  · obtain ⟨B', acc, n', _, _⟩ := z
    exact st_of (n'.sub _ _ (n'.ext _ _ hp))
  · obtain ⟨d, hd, rd⟩ := ra.getV hi
    rw [List.getElem?_map] at hd
    cases hq' : l[i]? with
    | none => rw [hq'] at hd; cases hd
    | some a =>
      rw [hq'] at hd
      cases hd
      have hm := List.mem_of_getElem? hq'
      exact lcI_turn z (Nat.lt_of_le_of_lt (outs_len i) hz) (ht a x B1 hm n.ext rd) (fun hc => he a x B1 hm n.ext rd hc) (outs_step hq')
  · obtain ⟨B', acc, n', o, ra'⟩ := z
    rw [hl] at ra'
    have ra' : RA B' acc (((l.take l.length).filter c).map f) := ra'
    rw [List.take_length] at ra'
    exact k _ _ H' ((n.trans (n'.give ⟨o.h0, o.b, o.h⟩))) (o.data ra')
theorem ev_lcT1 {α : Type} {l : List α} {enc : α → Dt} {f : α → Dt} {vs : List Nat} (h : EvR ta σ B (.tup (l.map enc))) (hz : l.length < 100000) (hw : ∀ x, wipe ((wipe σ vs).set j (some x)) vs = wipe σ vs)
    (he : ∀ q v B1, q ∈ l → Ex B B1 → R B1 v (enc q) → EvR te ((wipe σ vs).set j (some v)) B1 (f q)) : EvR (tLc (iTup K ta) (gName j) tYes te vs) σ B (.lst (l.map f)) := by
  have g := ev_lcT (K := K) (t := tYes) (c := fun _ => true) (f := f) h hz hw (fun _ _ _ _ _ _ => ec_yes) (fun q v B1 h1 h2 h3 _ => he q v B1 h1 h2 h3)
  rw [List.filter_eq_self.mpr (fun _ _ => rfl)] at g
  exact g
/-- over range(n) -/
theorem ev_lcR {n : Int} {c : Nat → Bool} {f : Nat → Dt} {vs : List Nat} (h : EvRA tl σ B [.int n]) (hz : 0 ≤ n ∧ n < 100000) (hw : ∀ x, wipe ((wipe σ vs).set j (some x)) vs = wipe σ vs)
    (ht : ∀ (q : Nat) B1, (q : Int) < n → Ex B B1 → EvC t ((wipe σ vs).set j (some (.int (q : Int)))) B1 (c q)) (he : ∀ (q : Nat) B1, (q : Int) < n → Ex B B1 → c q = true → EvR te ((wipe σ vs).set j (some (.int (q : Int)))) B1 (f q)) :
    EvR (tLc (iRng1 tl) (gName j) t te vs) σ B (.lst (((List.range n.toNat).filter c).map f)) := fun H0 e0 Q k => h H0 e0 _ fun v B1 H1 nw rv => by
  cases rv with | cons r1 rv =>
  cases r1; cases rv
  refine ⟨n, rfl, by omega, by omega, fun q hq => ?_⟩
  have hl : (List.range n.toNat).length = n.toNat := List.length_range
  refine lc_range (lo := 0) (n := n.toNat) (LcI B1 H1 q fun i => (((List.range n.toNat).take i).filter c).map f) (lcI_start nw.sub hq rfl) (fun i H' hi z => ?_) (fun H' z => ?_)
  · have e0 : (0 : Int) + (i : Int) = (i : Int) := Int.zero_add _
    rw [e0]
    have hq' : (List.range n.toNat)[i]? = some i := by rw [List.getElem?_range hi]
    exact ⟨hw _, lcI_turn z (Nat.lt_of_le_of_lt (outs_len i) (by omega)) (ht i B1 (by omega) nw.ext) (fun hc => he i B1 (by omega) nw.ext hc) (outs_step hq')⟩
  · obtain ⟨B', acc, n', o, ra'⟩ := z
    have ra' : RA B' acc ((((List.range n.toNat).take n.toNat).filter c).map f) := ra'
    rw [List.take_of_length_le (by omega)] at ra'
    exact k _ _ H' ((nw.trans (n'.give ⟨o.h0, o.b, o.h⟩))) (o.data ra')
theorem ev_lcR1 {n : Int} {f : Nat → Dt} {vs : List Nat} (h : EvRA tl σ B [.int n]) (hz : 0 ≤ n ∧ n < 100000) (hw : ∀ x, wipe ((wipe σ vs).set j (some x)) vs = wipe σ vs)
    (he : ∀ (q : Nat) B1, (q : Int) < n → Ex B B1 → EvR te ((wipe σ vs).set j (some (.int (q : Int)))) B1 (f q)) : EvR (tLc (iRng1 tl) (gName j) tYes te vs) σ B (.lst ((List.range n.toNat).map f)) := by
  have g := ev_lcR (t := tYes) (c := fun _ => true) (f := f) h hz hw (fun _ _ _ _ => ec_yes) (fun q B1 h1 h2 _ => he q B1 h1 h2)
  rw [List.filter_eq_self.mpr (fun _ _ => rfl)] at g
  exact g

/-! ### promises by data -/
def spD (g : List Dt → Dt → Prop) : Sp := fun vs H Q _ => ∃ B ds d, Ex B H ∧ RA B vs ds ∧ g ds d ∧ ∀ v B2 H2, New B H B2 H2 → R B2 v d → Q v H2
theorem ev_call {g : List Dt → Dt → Prop} {E : XK} (h : EvRA tl σ B ds) (hg : g ds d) : EvR (tCall (spD g) [] E tl) σ B d := fun H1 e Q q => h H1 e _ fun vs B1 H2 n ra => by
  refine ⟨B1, ds, d, n.sub, ?_, hg, fun v B2 H2 n2 rv => q v B2 H2 (n.trans n2) rv⟩
  rw [List.append_nil]
  exact ra
theorem ev_callK {g : List Dt → Dt → Prop} {E : XK} {gV : List V → List V → List V} {gD : List Dt → List Dt → List Dt} (h : EvRA tl σ B ds) (hk : EvRA tk σ B es) (rel : ∀ B vs ws as bs, RA B vs as → RA B ws bs → as.length = ds.length → bs.length = es.length → RA B (gV vs ws) (gD as bs)) (hg : g (gD ds es) d) :
    EvR (tCallK (spD g) gV E tl tk) σ B d := fun H1 e Q q => h H1 e _ fun vs B1 H2 n ra => (hk.mono n.ext) H2 n.sub _ fun ws B2 H3 n2 rb =>
  ⟨B2, _, d, n2.sub, rel B2 vs ws ds es (ra.mono n2.ext) rb rfl rfl, hg, fun v B3 H4 n3 rv => q v B3 H4 ((n.trans n2).trans n3) rv⟩
end
section
variable {P : Program} {w : World} {K : PySem.W.Frag} {mg : Str → Option Value} {base : Heap}
open PySem.Spec PyProof.Rows in
/-- a def by its body, by data -/
theorem fn_D {x qual : Str} {st : Stmt} {f : Addr} {fd : FuncData} {N ps : List Str} {k : Nat} {g : List Dt → Dt → Prop} (F : Fun K x qual st f fd) (S : FnScope N ps (defScope st)) (len : ∀ ds d, g ds d → ds.length = ps.length)
    (body : ∀ (cdv : Value) (Γ : Around) (below : List Env) (s : Shared) (B H : Hp) (vs : List V) (ds : List Dt) (d : Dt) (Q : VK) (E : XK), Γ.guards = some [] → Room k (Γ.deeper (envOfC qual (defScope st) s.heap.objs.size f cdv)) →
      Ex B H → RA B vs ds → g ds d → (∀ v B2 H2, New B H B2 H2 → R B2 v d → Q v H2) →
      ∃ t, PSs (cxOf CX0 P w K mg base N qual (defScope st) f cdv Γ below s H E).nox (defBody st) t ∧ t { nx := fun _ H' => Q .non H', rt := Q } (start N vs) H) : FnG P w K mg base CX0 (k + 1) f fd ps (spD g) := by
  obtain ⟨oc, od, kV, doc, pm, an, cdv, ct, osl, rfl, lk, hcd⟩ := F.ex
  refine fnG_of lk hcd S (fun vs H Q E h => ?_) (fun Γ below s H vs Q E hg hr h => ?_)
  · obtain ⟨B, ds, d, _, ra, hd, _⟩ := h
    rw [ra.len]
    exact len ds d hd
  · obtain ⟨B, ds, d, e, ra, hd, q⟩ := h
    obtain ⟨t, h1, h2⟩ := body cdv Γ below s B H vs ds d Q E hg hr e ra hd q
    exact ⟨t, h1.nox, h2⟩
end
end U

namespace U
open PySem L2 Evl

section
variable {X : Cx}
theorem op_addA : OpR X (binaryOp .Add) (rOr (rI0 fun i j => .int (i + j)) rCat) := op_add.or op_cat
theorem op_eqA (hu : X.A.units + 64 < cLine) : OpR X (compareOp .Eq) (rOr rEq (rEqD X.K)) := op_eq.or (op_eqD hu)
theorem op_neA (hu : X.A.units + 64 < cLine) : OpR X (compareOp .NotEq) (rOr rNe (rNeD X.K)) := op_ne.or (op_neD hu)
theorem op_isT : OpR X (compareOp .Is) rIsTy := op_isTX
theorem c_len : CallR X (.builtin "len") (rLenS X.K) := call_len_seq
theorem c_list : CallR X (.type "list") (rListS X.K) := call_list_of
theorem c_tuple : CallR X (.type "tuple") (rTupleS X.K) := call_tuple_of
theorem c_abs : CallR X (.builtin "abs") rAbs := call_abs
theorem c_int : CallR X (.type "int") rInt1 := call_int1
theorem c_max (h : X.calm = true) : CallR X (.builtin "max") rMax2 := call_max2 h
theorem c_min (h : X.calm = true) : CallR X (.builtin "min") rMin2 := call_min2 h
def rReprD : List V → Hp → VK → Prop := fun xs H Q => rRepr H xs Q
theorem c_repr (g : X.A.guards = some []) (hu : X.A.units + 64 < cLine) : CallR X (.builtin "repr") rReprD := call_repr g hu
theorem rl_reprD {d : Dt} (hq : isSeq d = true) (f : Fit d) : RL rReprD [d] (.str d.py.shown) := rl_repr hq f
end
/-! ### walking a list or a tuple, whichever it is -/
def iSeq (K : PySem.W.Frag) (tl : TE) : TI := fun σ H R => tl σ H fun x H1 => ∃ a, x = .ref a ∧ (((∃ xs, SqL K H1 a xs) ∧ R (Itl K a) H1) ∨ ((∃ xs, SqT K H1 a xs) ∧ R (Itt K a) H1))
open PySem.Spec PyProof.Rows in
theorem pi_seq {X : Cx} {tg l : Expr} {tl : TE} (hl : PE X l tl) : PI X tg l (iSeq X.K tl) := by
  constructor
  intro pins s σ H R I h
  refine thn (hl.run pins s σ H _ I h) ?_
  rintro v s1 ⟨x, H1, I1, rx, a, ex, both⟩
  rw [ex] at rx
  have ev : v = .ref a := rx
  rw [ev]
  have mine : ∀ b ∈ [s1.heap.objs.size], FpOk X pins H1 b := by
    intro b hb
    rw [List.mem_singleton.mp hb]
    exact I1.fpOk (Nat.le_refl _) (I1.hok.fresh (Nat.le_refl _))
  rcases both with ⟨⟨xs, hq⟩, q⟩ | ⟨⟨xs, hq⟩, q⟩
  · obtain ⟨its, _, p, _⟩ := I1.list hq
    apply wpAny_pyIter_list p.isList
    exact ⟨_, _, _, _, H1, rfl, I1.kept (t' := s1.toks) (fun b o e => Heap.get?_push_of_some _ e), turn_list a _, ⟨_, Heap.get?_push_size _ rfl, rfl, rfl⟩, mine, q⟩
  · obtain ⟨its, _, p, _⟩ := I1.tuple hq
    apply wpAny_pyIter_tuple (show s1.heap.IsTuple a its.toArray from p)
    exact ⟨_, _, _, _, H1, rfl, I1.kept (t' := s1.toks) (fun b o e => Heap.get?_push_of_some _ e), turn_tuple a _, ⟨_, Heap.get?_push_size _ rfl, rfl, rfl⟩, mine, q⟩
section
variable {K : PySem.W.Frag} {σ : L2.St} {B B' H : Hp} {ta te : TE} {t : TT} {ds : List Dt} {j : Nat} {D : Ends} {tu : TS} {g : TG}
def isL : Dt → Prop
  | .lst _ => True
  | _ => False
/-- the items of a list or a tuple -/
inductive Items : Dt → List Dt → Prop
  | lst (ds : List Dt) : Items (.lst ds) ds
  | tup (ds : List Dt) : Items (.tup ds) ds
theorem q_for {d : Dt} (e : Ex B H) (h : EvR te σ B d) (it : Items d ds) (Pv : Hp → Hp → Nat → L2.St → Hp → Prop) (h0 : ∀ B1 H1, New B H B1 H1 → Pv B1 H1 0 σ H1) (hx : ∀ B1 H1 i σ' H', Pv B1 H1 i σ' H' → Ex B1 H')
    (hs : ∀ B1 H1 i d v σ' H', New B H B1 H1 → ds[i]? = some d → R B1 v d → Pv B1 H1 i σ' H' → g v σ' H' fun σ2 H2 => tu { D with nx := Pv B1 H1 (i + 1), ct := Pv B1 H1 (i + 1), bk := D.nx } σ2 H2)
    (hd : ∀ B1 H1 σ' H', New B H B1 H1 → Pv B1 H1 ds.length σ' H' → D.nx σ' H') : tFor (iSeq K te) g tu D σ H := h H e _ fun v B1 H1 n rv => by
  cases it with
  | lst =>
    obtain ⟨p, vs, rfl, hp, ra⟩ := rv.lst_inv
    refine ⟨p, rfl, .inl ⟨⟨vs, sq_of (n.sub _ _ hp)⟩, for_list (K := K) (a := p) (xs := vs) (Pv B1 H1) (h0 B1 H1 n) (fun i σ' H' _ q => sq_of (hx B1 H1 i σ' H' q _ _ hp)) (fun i v σ' H' hi q => ?_) (fun σ' H' q => hd B1 H1 σ' H' n (by rw [← ra.len]; exact q))⟩⟩
    obtain ⟨d, hd', rd⟩ := ra.getV hi
    exact hs B1 H1 i d v σ' H' n hd' rd q
  | tup =>
    obtain ⟨p, vs, rfl, hp, ra⟩ := rv.tup_inv
    refine ⟨p, rfl, .inr ⟨⟨vs, st_of (n.sub _ _ hp)⟩, for_tup (K := K) (a := p) (xs := vs) (Pv B1 H1) (h0 B1 H1 n) (fun i σ' H' _ q => st_of (hx B1 H1 i σ' H' q _ _ hp)) (fun i v σ' H' hi q => ?_) (fun σ' H' q => hd B1 H1 σ' H' n (by rw [← ra.len]; exact q))⟩⟩
    obtain ⟨d, hd', rd⟩ := ra.getV hi
    exact hs B1 H1 i d v σ' H' n hd' rd q
theorem q_lc {d : Dt} {α : Type} {l : List α} {enc : α → Dt} {c : α → Bool} {f : α → Dt} {vs : List Nat} (h : EvR ta σ B d) (it : Items d (l.map enc)) (hz : l.length < 100000) (hw : ∀ x, wipe ((wipe σ vs).set j (some x)) vs = wipe σ vs)
    (ht : ∀ q v B1, q ∈ l → Ex B B1 → R B1 v (enc q) → EvC t ((wipe σ vs).set j (some v)) B1 (c q)) (he : ∀ q v B1, q ∈ l → Ex B B1 → R B1 v (enc q) → c q = true → EvR te ((wipe σ vs).set j (some v)) B1 (f q)) :
    EvR (tLc (iSeq K ta) (gName j) t te vs) σ B (.lst ((l.filter c).map f)) := fun H0 e0 Q k => h H0 e0 _ fun v B1 H1 n rv => by
  cases it with
  | lst =>
    obtain ⟨p, us, rfl, hp, ra⟩ := rv.lst_inv
    have g := ev_lc (K := K) (σ := σ) (B := B1) (ta := fun σ H Q => Q (.ref p) H) (fun H1 e Q q => q _ B1 H1 (New.refl e) (.lst hp ra)) hz hw (fun q v B2 h1 h2 h3 => ht q v B2 h1 (n.ext.trans h2) h3) (fun q v B2 h1 h2 h3 h4 => he q v B2 h1 (n.ext.trans h2) h3 h4)
    obtain ⟨a, e1, h1, h2⟩ := g H1 n.sub Q fun v B2 H2 n2 r2 => k v B2 H2 (n.trans n2) r2
    exact ⟨a, e1, .inl ⟨h1, h2⟩⟩
  | tup =>
    obtain ⟨p, us, rfl, hp, ra⟩ := rv.tup_inv
    have g := ev_lcT (K := K) (σ := σ) (B := B1) (ta := fun σ H Q => Q (.ref p) H) (fun H1 e Q q => q _ B1 H1 (New.refl e) (.tup hp ra)) hz hw (fun q v B2 h1 h2 h3 => ht q v B2 h1 (n.ext.trans h2) h3) (fun q v B2 h1 h2 h3 h4 => he q v B2 h1 (n.ext.trans h2) h3 h4)
    obtain ⟨a, e1, h1, h2⟩ := g H1 n.sub Q fun v B2 H2 n2 r2 => k v B2 H2 (n.trans n2) r2
    exact ⟨a, e1, .inr ⟨h1, h2⟩⟩
theorem q_lc1 {d : Dt} {α : Type} {l : List α} {enc : α → Dt} {f : α → Dt} {vs : List Nat} (h : EvR ta σ B d) (it : Items d (l.map enc)) (hz : l.length < 100000) (hw : ∀ x, wipe ((wipe σ vs).set j (some x)) vs = wipe σ vs)
    (he : ∀ q v B1, q ∈ l → Ex B B1 → R B1 v (enc q) → EvR te ((wipe σ vs).set j (some v)) B1 (f q)) : EvR (tLc (iSeq K ta) (gName j) tYes te vs) σ B (.lst (l.map f)) := by
  have g := q_lc (K := K) (t := tYes) (c := fun _ => true) (f := f) h it hz hw (fun _ _ _ _ _ _ => ec_yes) (fun q v B1 h1 h2 h3 _ => he q v B1 h1 h2 h3)
  rw [List.filter_eq_self.mpr (fun _ _ => rfl)] at g
  exact g
end
section
variable {K : PySem.W.Frag} {mg : Str → Option Value}
/-- a def of the text and where it stands -/
structure At (K : PySem.W.Frag) (mg : Str → Option Value) (x : Str) (st : Stmt) (f : Addr) (fd : FuncData) : Prop where
  F : Fun K x x st f fd
  at_ : mg x = some (.ref f)
theorem kb_of {x qual : Str} {st : Stmt} {f : Addr} {fd : FuncData} {ps ks : List Str} {gg : List Value → List Value → List Value} {gV : List V → List V → List V} (F : Fun K x qual st f fd)
    (h : ∀ (kV doc pm : Value) (an : Option Addr) (cdv ct : Value) (us ws : List Value), (gg us ws).length = ps.length → bindArgs (PySem.W.fnOf x qual (defArgs st) (defBody st) (defScope st) .none kV doc pm an cdv ct) ⟨us, ks.zip ws⟩ = pure (ps.zip (gg us ws)))
    (rel : ∀ {vs : List V} {us : List Value} {zs : List V} {ws : List Value}, Vals vs us → Vals zs ws → Vals (gV vs zs) (gg us ws)) : KBinds K fd ps ks gg gV := by
  obtain ⟨oc, od, kV, doc, pm, an, cdv, ct, osl, rfl, lk, hcd⟩ := F.ex
  exact ⟨fun s us ws _ hl => .of_eq (h kV doc pm an cdv ct us ws hl), rel⟩
end
end U

namespace U
open PySem L2
open Evl (Ex fresh_back sz_of sz_lt sq_of st_of rLenS rListS)

theorem set_same {α : Type} {x : α} : ∀ {l : List α} {i : Nat}, l[i]? = some x → l.set i x = l
  | [], _, h => by simp at h
  | y :: l, 0, h => by simp at h; rw [h]; rfl
  | y :: l, i + 1, h => by rw [List.set_cons_succ, set_same (by simpa using h)]
/-- a new list, in nobody's hands -/
def EvL (te : TE) (σ : L2.St) (B : Hp) (ds : List Dt) : Prop := ∀ H1, Ex B H1 → ∀ Q : VK, (∀ p vs B2 H2, New B H1 B2 H2 → Own H1 B2 H2 p vs → RA B2 vs ds → Q (.ref p) H2) → te σ H1 Q
section
variable {K : PySem.W.Frag} {σ : L2.St} {B B' H : Hp} {ta tb te tc : TE} {t u : TT} {tl tr tk : TA} {x y z d : Dt} {xs ds es : List Dt} {r r' : R2} {a b : Bool} {j : Nat} {D : Ends} {tu tw tz : TS} {i k : Int}
theorem EvL.toR (h : EvL te σ B ds) : EvR te σ B (.lst ds) := fun H1 e Q q => h H1 e Q fun p vs B2 H2 n o ra => q _ _ H2 (n.give o) (o.data ra)
theorem EvL.is (h : EvL te σ B ds) (q : ds = es) : EvL te σ B es := q ▸ h
theorem own_new {p : Addr} {vs : List V} (e : Ex B H) (hp : H p = none) : New B H B (upd H p (.lst vs)) ∧ Own H B (upd H p (.lst vs)) p vs :=
  ⟨⟨Ex.refl _, Evl.Ex.mut e (fresh_back e hp), Evl.Ex.new hp, fun _ h _ => h⟩, ⟨hp, fresh_back e hp, upd_same⟩⟩
theorem New.own {B0 H0 B1 H1 B2 H2 : Hp} {p : Addr} {vs : List V} (n : New B0 H0 B1 H1) (o : Own H1 B2 H2 p vs) : Own H0 B2 H2 p vs :=
  ⟨fresh_back n.heap o.h0, o.b, o.h⟩
theorem el_lst (h : EvRA tl σ B ds) (hl : ds.length ≤ 100000) : EvL (tLst tl) σ B ds := fun H1 e Q q =>
  h H1 e _ fun vs B2 H2 n rv => ⟨by rw [rv.len]; exact sz_of hl, fun p hp => q p vs B2 _ (n.trans (own_new n.sub hp).1) (n.own (own_new n.sub hp).2) rv⟩
theorem el_list (h : EvR te σ B (.lst ds)) : EvL (tCB (rListS K) (tCons te tNil)) σ B ds := fun H1 e Q q =>
  h H1 e _ fun v B2 H2 n rv => by
    obtain ⟨p, vs, rfl, hp, ra⟩ := rv.lst_inv
    exact ⟨p, vs, rfl, .inl (sq_of (n.sub _ _ hp)), fun l hl => q l vs B2 _ (n.trans (own_new n.sub hl).1) (n.own (own_new n.sub hl).2) ra⟩
/-- a comprehension -/
theorem el_lc {α : Type} {l : List α} {enc : α → Dt} {c : α → Bool} {f : α → Dt} {vs : List Nat} (h : EvR ta σ B d) (it : Items d (l.map enc)) (hz : l.length < 100000) (hw : ∀ x, wipe ((wipe σ vs).set j (some x)) vs = wipe σ vs)
    (ht : ∀ q v B1, q ∈ l → Ex B B1 → R B1 v (enc q) → EvC t ((wipe σ vs).set j (some v)) B1 (c q)) (he : ∀ q v B1, q ∈ l → Ex B B1 → R B1 v (enc q) → c q = true → EvR te ((wipe σ vs).set j (some v)) B1 (f q)) :
    EvL (tLc (iSeq K ta) (gName j) t te vs) σ B ((l.filter c).map f) := fun H0 e0 Q k => h H0 e0 _ fun v B1 H1 n rv => by
  have main : ∀ (J : It) (us : List V) (ra : RA B1 us (l.map enc)), ∀ q, H1 q = none → (∀ i x H', us[i]? = some x → LcI B1 H1 q (fun i => ((l.take i).filter c).map f) i H' →
      t ((wipe σ vs).set j (some x)) H' fun b H3 => if b = true then te ((wipe σ vs).set j (some x)) H3 fun y H4 => ∃ acc, H4 q = some (.lst acc) ∧ acc.length < sizeLine ∧ LcI B1 H1 q (fun i => ((l.take i).filter c).map f) (i + 1) (upd H4 q (.lst (acc ++ [y]))) else LcI B1 H1 q (fun i => ((l.take i).filter c).map f) (i + 1) H3) := by
    intro J us ra q hq i x H' hi zz
    obtain ⟨d, hd, rd⟩ := ra.getV hi
    rw [List.getElem?_map] at hd
    cases hq' : l[i]? with
    | none => rw [hq'] at hd; cases hd
    | some a =>
      rw [hq'] at hd
      cases hd
      have hm := List.mem_of_getElem? hq'
      exact lcI_turn zz (Nat.lt_of_le_of_lt (outs_len i) hz) (ht a x B1 hm n.ext rd) (fun hc => he a x B1 hm n.ext rd hc) (outs_step hq')
  have fin : ∀ (us : List V), RA B1 us (l.map enc) → ∀ q H', LcI B1 H1 q (fun i => ((l.take i).filter c).map f) us.length H' → Q (.ref q) H' := by
    intro us ra q H' zz
    have hl : us.length = l.length := by rw [ra.len, List.length_map]
    obtain ⟨B', acc, n', o, ra'⟩ := zz
    rw [hl] at ra'
    have ra' : RA B' acc (((l.take l.length).filter c).map f) := ra'
    rw [List.take_length] at ra'
    exact k q acc B' H' (n.trans n') ⟨fresh_back n.heap o.h0, o.b, o.h⟩ ra'
  cases it with
  | lst =>
    obtain ⟨p, us, rfl, hp, ra⟩ := rv.lst_inv
    refine ⟨p, rfl, .inl ⟨⟨us, sq_of (n.sub _ _ hp)⟩, fun q hq => ?_⟩⟩
    exact lc_list (xs := us) (LcI B1 H1 q fun i => ((l.take i).filter c).map f) (lcI_start n.sub hq rfl) (fun i H' _ ⟨B', acc, n', _, _⟩ => sq_of (n'.sub _ _ (n'.ext _ _ hp))) (fun i x H' hi zz => ⟨hw x, main (Itl K p) us ra q hq i x H' hi zz⟩) (fun H' zz => fin us ra q H' zz)
  | tup =>
    obtain ⟨p, us, rfl, hp, ra⟩ := rv.tup_inv
    refine ⟨p, rfl, .inr ⟨⟨us, st_of (n.sub _ _ hp)⟩, fun q hq => ?_⟩⟩
    exact lc_tup (xs := us) (LcI B1 H1 q fun i => ((l.take i).filter c).map f) (lcI_start n.sub hq rfl) (fun i H' _ ⟨B', acc, n', _, _⟩ => st_of (n'.sub _ _ (n'.ext _ _ hp))) (fun i x H' hi zz => ⟨hw x, main (Itt K p) us ra q hq i x H' hi zz⟩) (fun H' zz => fin us ra q H' zz)
theorem el_lc1 {α : Type} {l : List α} {enc : α → Dt} {f : α → Dt} {vs : List Nat} (h : EvR ta σ B d) (it : Items d (l.map enc)) (hz : l.length < 100000) (hw : ∀ x, wipe ((wipe σ vs).set j (some x)) vs = wipe σ vs)
    (he : ∀ q v B1, q ∈ l → Ex B B1 → R B1 v (enc q) → EvR te ((wipe σ vs).set j (some v)) B1 (f q)) : EvL (tLc (iSeq K ta) (gName j) tYes te vs) σ B (l.map f) := by
  have g := el_lc (K := K) (t := tYes) (c := fun _ => true) (f := f) h it hz hw (fun _ _ _ _ _ _ => ec_yes) (fun q v B1 h1 h2 h3 _ => he q v B1 h1 h2 h3)
  rw [List.filter_eq_self.mpr (fun _ _ => rfl)] at g
  exact g
/-- a promise: a new list -/
def spL (g : List Dt → List Dt → Prop) : Sp := fun vs H Q _ => ∃ B as ds, Ex B H ∧ RA B vs as ∧ g as ds ∧ ∀ p us B2 H2, New B H B2 H2 → Own H B2 H2 p us → RA B2 us ds → Q (.ref p) H2
theorem el_call {g : List Dt → List Dt → Prop} {E : XK} (h : EvRA tl σ B xs) (hg : g xs ds) : EvL (tCall (spL g) [] E tl) σ B ds := fun H1 e Q q => h H1 e _ fun vs B1 H2 n ra => by
  refine ⟨B1, xs, ds, n.sub, by rw [List.append_nil]; exact ra, hg, fun p us B2 H3 n2 o r2 => q p us B2 H3 (n.trans n2) (n.own o) r2⟩
theorem s_asgL {q : Nat} (e : Ex B H) (h : EvL te σ B ds) (k : ∀ p vs B1 H1, New B H B1 H1 → Own H B1 H1 p vs → RA B1 vs ds → D.nx (σ.set q (some (.ref p))) H1) : tAsg te (gName q) D σ H := h H e _ k
theorem s_retL (e : Ex B H) (h : EvL te σ B xs) (q : xs = ds) (k : ∀ p vs B1 H1, New B H B1 H1 → Own H B1 H1 p vs → RA B1 vs ds → D.rt (.ref p) H1) : tRet te D σ H := h H e _ fun p vs B1 H1 n o ra => k p vs B1 H1 n o (q ▸ ra)
/-- a < b < c -/
theorem ev_chain (ha : EvR ta σ B x) (hb : EvR tb σ B y) (hr : RV r x y (.bl a)) (hc : a = true → EvR tc σ B z) (hr' : a = true → RV r' y z (.bl b)) : EvR (tChain r r' ta tb tc) σ B (.bl (a && b)) := fun H1 e Q q =>
  ha H1 e _ fun v B2 H2 n rv => (hb.mono n.ext) H2 n.sub _ fun w B3 H3 n2 rw => hr B3 H3 v w n2.sub (rv.mono n2.ext) rw _ fun c B4 H4 n3 rc => by
    cases rc
    refine ⟨a, rfl, ?_⟩
    have n4 := (n.trans n2).trans n3
    cases a with
    | false => exact q _ B4 H4 n4 (.bl false)
    | true =>
      show tc σ H4 _
      exact ((hc rfl).mono n4.ext) H4 n4.sub _ fun u B5 H5 n5 ru => hr' rfl B5 H5 w u n5.sub (rw.mono (n3.ext.trans n5.ext)) ru Q fun c B6 H6 n6 rc => q c B6 H6 ((n4.trans n5).trans n6) rc
/-- false on the left -/
theorem ev_andF (h1 : EvR ta σ B (.bl a)) (h : a = false) : EvR (tAndV ta tb) σ B (.bl false) := by
  have g := ev_and (tb := tb) (b := false) h1 (fun e => by rw [h] at e; cases e)
  rw [h] at g
  exact g
/-- if c: x = e, x an int -/
theorem s_ifI {q : Nat} (e : Ex B H) (h : EvC t σ B b) (h1 : b = true → EvR te σ B (.int i)) (hx : σ[q]? = some (some (.int k))) (go : ∀ H1, Up B H H1 → D.nx (σ.set q (some (.int (if b = true then i else k)))) H1) : tIfS t (tAsg te (gName q)) tNext D σ H :=
  s_if e h (fun hb H1 u => (h1 hb) H1 u.sub _ fun v B2 H2 n rv => by
    cases rv
    have g := go H2 ⟨e, u.sub.trans n.heap, u.heap.trans n.heap⟩
    rw [if_pos hb] at g
    exact g) (fun hb H1 u => by
    have g := go H1 u
    rw [if_neg (by rw [hb]; exact Bool.false_ne_true)] at g
    have e0 : σ.set q (some (.int k)) = σ := set_same hx
    rw [e0] at g
    exact g)
/-- o[i] = e, o a list of one's own -/
theorem s_put {H0 : Hp} {p : Addr} {vs : List V} {n m : Nat} (e : Ex B H) (o : Own H0 B H p vs) (h : EvR te σ B d) (ho : σ[n]? = some (some (.ref p))) (hi : ∀ B1, Ex B B1 → EvR tb σ B1 (.int (m : Int))) (hm : m < vs.length)
    (go : ∀ v B1 H1, New B H B1 H1 → Own H0 B1 H1 p vs → R B1 v d → D.nx σ (upd H1 p (.lst (vs.set m v)))) : tAsg te (gSub (tVar n) tb rSetL) D σ H := h H e _ fun v B1 H1 n1 rv =>
  ⟨_, ho, (hi B1 n1.ext) H1 n1.sub _ fun w B2 H2 n2 rw => by
    cases rw
    have o2 := (o.step n1).step n2
    refine ⟨p, vs, m, m, rfl, rfl, o2.h, ?_, go v B2 H2 (n1.trans n2) o2 (rv.mono n2.ext)⟩
    unfold ixN
    simp only [Int.natCast_nonneg]
    first
      | (rw [if_pos (by omega)]; simp; done)
      | (simp [hm]; done)
      | (split <;> simp_all <;> omega)⟩
end
section
variable {P : Program} {w : World} {K : PySem.W.Frag} {mg : Str → Option Value} {base : Heap}
open PySem.Spec PyProof.Rows in
/-- a def by its body, whatever it promises -/
theorem fn_S {x qual : Str} {st : Stmt} {f : Addr} {fd : FuncData} {N ps : List Str} {k : Nat} {sp : Sp} (F : Fun K x qual st f fd) (S : FnScope N ps (defScope st)) (len : ∀ vs H Q E, sp vs H Q E → vs.length = ps.length)
    (body : ∀ (cdv : Value) (Γ : Around) (below : List Env) (s : Shared) (H : Hp) (vs : List V) (Q : VK) (E : XK), Γ.guards = some [] → Room k (Γ.deeper (envOfC qual (defScope st) s.heap.objs.size f cdv)) → sp vs H Q E →
      ∃ t, PSs (cxOf CX0 P w K mg base N qual (defScope st) f cdv Γ below s H E).nox (defBody st) t ∧ t { nx := fun _ H' => Q .non H', rt := Q } (start N vs) H) : FnG P w K mg base CX0 (k + 1) f fd ps sp := by
  obtain ⟨oc, od, kV, doc, pm, an, cdv, ct, osl, rfl, lk, hcd⟩ := F.ex
  refine fnG_of lk hcd S len (fun Γ below s H vs Q E hg hr h => ?_)
  obtain ⟨t, h1, h2⟩ := body cdv Γ below s H vs Q E hg hr h
  exact ⟨t, h1.nox, h2⟩
open PySem.Spec PyProof.Rows in
theorem fn_L {x qual : Str} {st : Stmt} {f : Addr} {fd : FuncData} {N ps : List Str} {k : Nat} {g : List Dt → List Dt → Prop} (F : Fun K x qual st f fd) (S : FnScope N ps (defScope st)) (len : ∀ ds d, g ds d → ds.length = ps.length)
    (body : ∀ (cdv : Value) (Γ : Around) (below : List Env) (s : Shared) (B H : Hp) (vs : List V) (as ds : List Dt) (Q : VK) (E : XK), Γ.guards = some [] → Room k (Γ.deeper (envOfC qual (defScope st) s.heap.objs.size f cdv)) →
      Ex B H → RA B vs as → g as ds → (∀ p us B2 H2, New B H B2 H2 → Own H B2 H2 p us → RA B2 us ds → Q (.ref p) H2) →
      ∃ t, PSs (cxOf CX0 P w K mg base N qual (defScope st) f cdv Γ below s H E).nox (defBody st) t ∧ t { nx := fun _ H' => Q .non H', rt := Q } (start N vs) H) : FnG P w K mg base CX0 (k + 1) f fd ps (spL g) := by
  refine fn_S F S (fun vs H Q E h => ?_) (fun cdv Γ below s H vs Q E hg hr h => ?_)
  · obtain ⟨B, as, ds, _, ra, hd, _⟩ := h
    rw [ra.len]
    exact len as ds hd
  · obtain ⟨B, as, ds, e, ra, hd, q⟩ := h
    exact body cdv Γ below s B H vs as ds Q E hg hr e ra hd q
end
theorem Own.up {H0 B H H1 : Hp} {p : Addr} {xs : List V} (o : Own H0 B H p xs) (u : Ex H H1) : Own H0 B H1 p xs := ⟨o.h0, o.b, u _ _ o.h⟩
theorem Own.ex {H0 B H : Hp} {p : Addr} {xs : List V} (e : Ex B H) (o : Own H0 B H p xs) : Ex (upd B p (.lst xs)) H := fun a u q => by
  by_cases ha : a = p
  · subst ha; rw [upd_same] at q; rw [← q]; exact o.h
  · rw [upd_ne ha] at q; exact e a u q
/-! ### data in short -/
abbrev eI (ns : List Int) : Dt := .lst (ns.map .int)
abbrev eSet (p q : List Int) : Dt := .tup [eI p, eI q]
abbrev eFr (a b : Int) : Dt := .tup [.int a, .int b]
theorem fitAll_ints {M : Nat} (hM : M ≤ 10 ^ 60) : ∀ (ns : List Int), (∀ n ∈ ns, n.natAbs < M) → fitAll (ns.map .int) = true
  | [], _ => by simp [fitAll]
  | n :: ns, h => by
    have h1 := h n List.mem_cons_self
    rw [List.map_cons, fitAll, fitAll_ints hM ns fun m hm => h m (List.mem_cons_of_mem _ hm), Dt.fit, decide_eq_true (by omega)]; rfl
theorem wtAll_ints : ∀ (ns : List Int), wtAll (ns.map .int) = ns.length
  | [] => rfl
  | n :: ns => by rw [List.map_cons, wtAll, wtAll_ints ns, Dt.wt, List.length_cons]; omega
theorem depAll_ints : ∀ (ns : List Int), depAll (ns.map .int) = 0
  | [] => rfl
  | n :: ns => by rw [List.map_cons, depAll, depAll_ints ns, Dt.dep]; rfl
theorem fit_eI {ns : List Int} (h : ∀ n ∈ ns, n.natAbs < 10 ^ 60) (hl : ns.length ≤ 1000) : Fit (eI ns) :=
  ⟨by rw [Dt.fit]; exact fitAll_ints (Nat.le_refl _) ns h, by rw [Dt.wt, wtAll_ints]; omega, by rw [Dt.dep, depAll_ints]; omega⟩
theorem fit_eSet {p q : List Int} (hp : ∀ n ∈ p, n.natAbs < 10 ^ 60) (hq : ∀ n ∈ q, n.natAbs < 10 ^ 60) (lp : p.length ≤ 1000) (lq : q.length ≤ 1000) : Fit (eSet p q) := by
  have h1 := fit_eI hp lp
  have h2 := fit_eI hq lq
  refine ⟨?_, ?_, ?_⟩
  · rw [Dt.fit, fitAll, fitAll, fitAll, h1.fit, h2.fit]; rfl
  · rw [Dt.wt, wtAll, wtAll, wtAll, Dt.wt, Dt.wt, wtAll_ints, wtAll_ints]; omega
  · rw [Dt.dep, depAll, depAll, depAll, Dt.dep, Dt.dep, depAll_ints, depAll_ints]; decide
theorem atI_ints {f : List Int} {i : Int} (h0 : 0 ≤ i) (h1 : i < f.length) : atI (f.map Dt.int) i = some (.int (f.getD i.toNat 0)) := by
  have e2 : i.toNat < f.length := by omega
  unfold atI ixN
  rw [List.length_map]
  first
    | (simp [h0, h1, e2]; done)
    | (simp [h0, h1, e2, List.getElem?_eq_getElem, List.getD]; done)
    | (split <;> simp_all [List.getElem?_eq_getElem, List.getD] <;> omega)
theorem eqv_nil {f : List Int} : PyData.eqv (eI f).py (Dt.lst []).py = decide (f = []) := by
  cases f with
  | nil => simp [Dt.py, pyAll, PyData.eqv, PyData.eqvAll]
  | cons x f => simp [Dt.py, pyAll, PyData.eqv, PyData.eqvAll]
theorem canLay_ints : ∀ (ns : List Int), PyData.canLayAll0 (pyAll (ns.map .int)) = true
  | [] => by simp [pyAll, PyData.canLayAll0]
  | n :: ns => by rw [List.map_cons, pyAll, PyData.canLayAll0, canLay_ints ns, Dt.py, PyData.canLay0]; rfl
theorem shaped_eI {ns : List Int} : SeqAt.shaped (eI ns).py = true := by
  unfold SeqAt.shaped
  rw [dep_py, Dt.dep, depAll_ints, Dt.py, PyData.canLay0, canLay_ints]
  rfl
theorem eqv_self {ns : List Int} : PyData.eqv (eI ns).py (eI ns).py = true := SeqAt.eqv_refl _ (SeqAt.canLay_of_shaped shaped_eI)
end U

namespace U
open PySem L2
open Evl (Ex fresh_back sz_of sz_lt sq_of st_of rLenS rListS)
section
variable {X : Cx} {K : PySem.W.Frag}
theorem k_seq {tg l : Expr} {tl : TE} (h : X.K = K) (hl : PE X l tl) : PI X tg l (iSeq K tl) := h ▸ pi_seq hl
theorem k_ix (h : X.K = K) : IxR X (rIx K) := h ▸ ix_seq
theorem k_eq (h : X.K = K) (hu : X.A.units + 64 < cLine) : OpR X (compareOp .Eq) (rOr rEq (rEqD K)) := h ▸ op_eqA hu
theorem k_ne (h : X.K = K) (hu : X.A.units + 64 < cLine) : OpR X (compareOp .NotEq) (rOr rNe (rNeD K)) := h ▸ op_neA hu
theorem k_len (h : X.K = K) : CallR X (.builtin "len") (rLenS K) := h ▸ c_len
theorem k_list (h : X.K = K) : CallR X (.type "list") (rListS K) := h ▸ c_list
theorem k_tuple (h : X.K = K) : CallR X (.type "tuple") (rTupleS K) := h ▸ c_tuple
theorem k_all (h : X.K = K) (hc : X.calm = true) : CallR X (.builtin "all") (rAll K) := h ▸ cr_all hc
theorem k_min (h : X.K = K) (hc : X.calm = true) : CallR X (.builtin "min") (L2.rMin K) := h ▸ cr_min hc
theorem k_isi (h : X.K = K) : CallR X (.builtin "isinstance") (rIsi K) := h ▸ call_isi
theorem k_in (h : X.K = K) : OpR X (compareOp .In) (rIn K false) := h ▸ op_in_seq
theorem k_notin (h : X.K = K) : OpR X (compareOp .NotIn) (rIn K true) := h ▸ op_notIn_seq
theorem k_slice (h : X.K = K) : SlR X (rSlL K) := h ▸ sl_list
end
section
variable {K : PySem.W.Frag} {σ : L2.St} {B B' H : Hp} {ta tb te tc : TE} {t : TT} {d0 d1 d : Dt} {b : Bool} {D : Ends} {i : Int}
/-- if c: x = e -/
theorem s_ifR {q : Nat} {v0 : V} (e : Ex B H) (h : EvC t σ B b) (h1 : b = true → EvR te σ B d1) (hx : σ[q]? = some (some v0)) (r0 : R B v0 d0) (go : ∀ v B1 H1, New B H B1 H1 → R B1 v (if b = true then d1 else d0) → D.nx (σ.set q (some v)) H1) : tIfS t (tAsg te (gName q)) tNext D σ H :=
  s_if e h (fun hb H1 u => (h1 hb) H1 u.sub _ fun v B2 H2 n rv => by
    refine go v B2 H2 (u.new.trans n) ?_
    rw [if_pos hb]
    exact rv) (fun hb H1 u => by
    have g := go v0 B H1 u.new (by rw [if_neg (by rw [hb]; exact Bool.false_ne_true)]; exact r0)
    rw [set_same hx] at g
    exact g)
/-- x[i], x a tuple whose items are not all told -/
theorem ev_ixRaw {n : Nat} {p : Addr} {vs : List V} {v : V} (h : σ[n]? = some (some (.ref p))) (hb : B p = some (.tup vs)) (hi : atI vs i = some v) (r : R B v d) : EvR (tOp (rIx K) (tVar n) (tC (.int i))) σ B d := fun H1 e Q q =>
  ⟨_, h, .inr (.inl ⟨p, vs, i, v, rfl, rfl, st_of (e _ _ hb), hi, q v B H1 (New.refl e) r⟩)⟩
theorem atI_two {d : Dt} {x : Int} (h0 : 0 ≤ x) (h1 : x < 2) : atI [d, d] x = some d := by
  have : x = 0 ∨ x = 1 := by omega
  rcases this with e | e <;> rw [e] <;> rfl
theorem atI_hd {x : Int} {xs : List Int} : atI ((x :: xs).map V.int) 0 = some (.int x) := by
  have h : ((0 : Int) < ((x :: xs).map V.int).length) := by rw [List.length_map, List.length_cons]; omega
  unfold atI ixN
  first
    | (simp; done)
    | (split <;> simp_all <;> omega)
theorem ixN_0 {α : Type} {x : α} {xs : List α} : ixN (x :: xs).length 0 = some 0 := by
  unfold ixN
  first
    | (simp; done)
    | (split <;> simp_all <;> omega)
end
end U

namespace U
open PySem L2
open Evl (Ex fresh_back sz_of sz_lt sq_of st_of rLenS rListS)
section
variable {K : PySem.W.Frag} {σ : L2.St} {B B' H : Hp} {ta tb te tc : TE} {t : TT} {x y z d d0 d1 d2 d3 d4 : Dt} {ds es : List Dt} {b : Bool} {D : Ends} {i j k l : Nat}
/-- plain values -/
def Dt.fl : Dt → Bool
  | .lst _ | .tup _ | .exc _ | .con _ => false
  | _ => true
def Dt.v : Dt → V
  | .non => .non | .bl b => .bl b | .int i => .int i | .str s => .str s | _ => .non
theorem R.fl {v : V} (h : R B v d) (f : d.fl = true) : v = d.v ∧ flatV v = true := by
  cases h with
  | lst _ _ => cases f
  | tup _ _ => cases f
  | exc _ => cases f
  | con _ => cases f
  | _ => exact ⟨rfl, rfl⟩
theorem RA.fl : ∀ {vs : List V} {ds : List Dt}, RA B vs ds → ds.all Dt.fl = true → vs = ds.map Dt.v ∧ vs.all flatV = true
  | _, _, .nil, _ => ⟨rfl, rfl⟩
  | _, _, .cons a r, f => by
    rw [List.all_cons, Bool.and_eq_true] at f
    obtain ⟨h1, h2⟩ := R.fl a f.1
    obtain ⟨h3, h4⟩ := RA.fl r f.2
    exact ⟨by rw [List.map_cons, ← h1, ← h3], by rw [List.all_cons, h2, h4]; rfl⟩
theorem rv_in {neg : Bool} (hx : x.fl = true) (it : Items y ds) (hf : ds.all Dt.fl = true) : RV (rIn K neg) x y (.bl (if neg then !inV x.v (ds.map Dt.v) else inV x.v (ds.map Dt.v))) := fun B H1 v w e r1 r2 Q q => by
  obtain ⟨h1, h2⟩ := r1.fl hx
  cases it with
  | lst =>
    obtain ⟨p, vs, rfl, hp, ra⟩ := r2.lst_inv
    obtain ⟨h3, h4⟩ := ra.fl hf
    exact ⟨p, vs, rfl, .inl (sq_of (e _ _ hp)), h2, h4, by rw [h1, h3]; exact q _ B H1 (New.refl e) (.bl _)⟩
  | tup =>
    obtain ⟨p, vs, rfl, hp, ra⟩ := r2.tup_inv
    obtain ⟨h3, h4⟩ := ra.fl hf
    exact ⟨p, vs, rfl, .inr (st_of (e _ _ hp)), h2, h4, by rw [h1, h3]; exact q _ B H1 (New.refl e) (.bl _)⟩
theorem RA.flat : ∀ (n : Nat) {vs : List V} {ds : List Dt}, RA B vs ds → RA B (List.replicate n vs).flatten (List.replicate n ds).flatten
  | 0, _, _, _ => .nil
  | n + 1, _, _, h => by rw [List.replicate_succ, List.replicate_succ, List.flatten_cons, List.flatten_cons]; exact h.append (RA.flat n h)
theorem rv_rep {n : Int} (hn : 0 ≤ n ∧ n ≤ 1000) (hd : ds.length ≤ 10) : RV rRep (.lst ds) (.int n) (.lst (List.replicate n.toNat ds).flatten) := fun B H1 v w e r1 r2 Q q => by
  cases r2
  obtain ⟨p, vs, rfl, hp, ra⟩ := r1.lst_inv
  refine ⟨p, n, vs, rfl, rfl, e _ _ hp, by omega, by omega, ?_, fun l hl => q _ (upd B l _) _ (New.one e hl) (.lst upd_same ((ra.flat n.toNat).mono (Evl.Ex.new (fresh_back e hl))))⟩
  have h1 : vs.length * n.toNat ≤ 10 * 1000 := Nat.mul_le_mul (by rw [ra.len]; exact hd) (by omega)
  rw [sizeLine_eq]
  omega
theorem g_tup4 {v : V} {k' : L2.St → Hp → Prop} (e : Ex B H) (r : R B v (.tup [d1, d2, d3, d4])) (h : ∀ v1 v2 v3 v4, R B v1 d1 → R B v2 d2 → R B v3 d3 → R B v4 d4 → k' ((((σ.set i (some v1)).set j (some v2)).set k (some v3)).set l (some v4)) H) :
    gTup K 4 (gCons (gName i) (gCons (gName j) (gCons (gName k) (gCons (gName l) gNil)))) v σ H k' := by
  obtain ⟨p, vs, rfl, hp, ra⟩ := r.tup_inv
  cases ra with | cons r1 ra =>
  cases ra with | cons r2 ra =>
  cases ra with | cons r3 ra =>
  cases ra with | cons r4 ra =>
  cases ra
  exact ⟨p, _, rfl, st_of (e _ _ hp), rfl, _, _, rfl, _, _, rfl, _, _, rfl, _, _, rfl, rfl, h _ _ _ _ r1 r2 r3 r4⟩
theorem s_asg4 (e : Ex B H) (h : EvR te σ B (.tup [d1, d2, d3, d4])) (go : ∀ v1 v2 v3 v4 B1 H1, New B H B1 H1 → R B1 v1 d1 → R B1 v2 d2 → R B1 v3 d3 → R B1 v4 d4 → D.nx ((((σ.set i (some v1)).set j (some v2)).set k (some v3)).set l (some v4)) H1) :
    tAsg te (gTup K 4 (gCons (gName i) (gCons (gName j) (gCons (gName k) (gCons (gName l) gNil))))) D σ H := h H e _ fun v B1 H1 n rv =>
  g_tup4 (K := K) n.sub rv fun v1 v2 v3 v4 r1 r2 r3 r4 => go v1 v2 v3 v4 B1 H1 n r1 r2 r3 r4
/-- over range(n), a list of one's own -/
theorem el_lcR1 {n : Int} {f : Nat → Dt} {tl : TA} {vs : List Nat} (h : EvRA tl σ B [.int n]) (hz : 0 ≤ n ∧ n < 100000) (hw : ∀ x, wipe ((wipe σ vs).set j (some x)) vs = wipe σ vs)
    (he : ∀ (q : Nat) B1, (q : Int) < n → Ex B B1 → EvR te ((wipe σ vs).set j (some (.int (q : Int)))) B1 (f q)) : EvL (tLc (iRng1 tl) (gName j) tYes te vs) σ B ((List.range n.toNat).map f) := fun H0 e0 Q k => h H0 e0 _ fun v B1 H1 nw rv => by
  cases rv with | cons r1 rv =>
  cases r1; cases rv
  refine ⟨n, rfl, by omega, by omega, fun q hq => ?_⟩
  refine lc_range (lo := 0) (n := n.toNat) (LcI B1 H1 q fun i => (((List.range n.toNat).take i).filter fun _ => true).map f) (lcI_start nw.sub hq rfl) (fun i H' hi z => ?_) (fun H' z => ?_)
  · have e0 : (0 : Int) + (i : Int) = (i : Int) := Int.zero_add _
    rw [e0]
    have hq' : (List.range n.toNat)[i]? = some i := by rw [List.getElem?_range hi]
    exact ⟨hw _, lcI_turn z (Nat.lt_of_le_of_lt (outs_len i) (by rw [List.length_range]; omega)) ec_yes (fun _ => he i B1 (by omega) nw.ext) (outs_step hq')⟩
  · obtain ⟨B', acc, n', o, ra'⟩ := z
    have ra' : RA B' acc ((((List.range n.toNat).take n.toNat).filter fun _ => true).map f) := ra'
    rw [List.take_of_length_le (by rw [List.length_range]; omega), List.filter_eq_self.mpr (fun _ _ => rfl)] at ra'
    exact k q acc B' H' (nw.trans n') ⟨fresh_back nw.heap o.h0, o.b, o.h⟩ ra'
/-- for j in tl, the list of the data enc q, by what holds between the turns -/
theorem q_each {α : Type} {l : List α} {enc : α → Dt} {g : TG} {tu : TS} (e : Ex B H) (h : EvR te σ B d) (it : Items d (l.map enc)) (Pv : Nat → L2.St → Hp → Hp → Prop) (h0 : ∀ B1 H1, New B H B1 H1 → Pv 0 σ B1 H1)
    (hs : ∀ B1 i q v σ' B' H', l[i]? = some q → R B1 v (enc q) → Ex B1 B' → Ex B' H' → Pv i σ' B' H' → g v σ' H' fun σ2 H2 => tu { D with nx := fun σ3 H3 => ∃ B3, Ex B1 B3 ∧ Ex B3 H3 ∧ Pv (i + 1) σ3 B3 H3, ct := fun σ3 H3 => ∃ B3, Ex B1 B3 ∧ Ex B3 H3 ∧ Pv (i + 1) σ3 B3 H3, bk := D.nx } σ2 H2)
    (hd : ∀ σ' B' H', Ex B' H' → Pv l.length σ' B' H' → D.nx σ' H') : tFor (iSeq K te) g tu D σ H :=
  q_for e h it (fun B1 H1 i σ' H' => ∃ B', Ex B1 B' ∧ Ex B' H' ∧ Pv i σ' B' H') (fun B1 H1 n => ⟨B1, Evl.Ex.refl _, n.sub, h0 B1 H1 n⟩) (fun B1 H1 i σ' H' z => by
    obtain ⟨B', a, b, _⟩ := z
    exact a.trans b) (fun B1 H1 i dd v σ' H' n hi rv z => by
    obtain ⟨B', a, b, c⟩ := z
    rw [List.getElem?_map] at hi
    cases hq : l[i]? with
    | none => rw [hq] at hi; cases hi
    | some q =>
      rw [hq] at hi
      cases hi
      exact hs B1 i q v σ' B' H' hq rv a b c) (fun B1 H1 σ' H' n z => by
    obtain ⟨B', a, b, c⟩ := z
    rw [List.length_map] at c
    exact hd σ' B' H' b c)
end
def axS (b : Bool) : Str := if b = true then "x" else "y"
theorem ixN_nat {n m : Nat} (h : m < n) : ixN n (m : Int) = some m := by
  unfold ixN
  simp only [Int.natCast_nonneg]
  first
    | (rw [if_pos (by omega)]; simp; done)
    | (simp [h]; done)
    | (split <;> simp_all <;> omega)
theorem atI_nat' {α : Type} {xs : List α} {m : Nat} {v : α} (h : xs[m]? = some v) : atI xs (m : Int) = some v := by
  unfold atI
  rw [ixN_nat (List.getElem?_eq_some_iff.mp h).1]
  exact h
theorem atI_last' {α : Type} {xs : List α} {v : α} (h : xs[xs.length - 1]? = some v) : atI xs (-1) = some v := by
  have hl := (List.getElem?_eq_some_iff.mp h).1
  have e : ixN xs.length (-1) = some (xs.length - 1) := by
    unfold ixN
    first
      | (simp; omega; done)
      | (split <;> simp_all <;> omega)
  unfold atI
  rw [e]
  exact h
section
variable {K : PySem.W.Frag} {σ : L2.St} {B B' H : Hp} {te : TE} {D : Ends}
/-- o[i] = e, o a list of one's own that e may read, e an int -/
theorem s_putI {H0 : Hp} {p : Addr} {vs : List V} {n q k : Nat} {z : Int} (e : Ex B' H) (h : EvR te σ B' (.int z)) (o : Own H0 B H p vs) (ho : σ[n]? = some (some (.ref p))) (hi : σ[q]? = some (some (.int (k : Int)))) (hk : k < vs.length)
    (go : ∀ H1, Ex H H1 → D.nx σ (upd H1 p (.lst (vs.set k (.int z))))) : tAsg te (gSub (tVar n) (tVar q) rSetL) D σ H := h H e _ fun v B1 H1 n1 rv => by
  cases rv
  exact ⟨_, ho, _, hi, p, vs, k, k, rfl, rfl, n1.heap _ _ o.h, ixN_nat hk, go H1 n1.heap⟩
end
theorem RA.set {B : Hp} {v : V} {d : Dt} (r : R B v d) : ∀ {vs : List V} {ds : List Dt} (i : Nat), RA B vs ds → RA B (vs.set i v) (ds.set i d)
  | _, _, _, .nil => .nil
  | _, _, 0, .cons _ t => .cons r t
  | _, _, i + 1, .cons q t => .cons q (RA.set r i t)
/-- if c: .. without an else, a word between it and what follows -/
theorem s_if_cut {B H : Hp} {σ : L2.St} {t : TT} {tu : TS} {D : Ends} {b : Bool} (M : L2.St → Hp → Prop) (e : Ex B H) (h : EvC t σ B b) (hM : ∀ σ3 H3, M σ3 H3 → D.nx σ3 H3) (h1 : b = true → ∀ H1, Up B H H1 → ∀ D' : Ends, (∀ σ3 H3, M σ3 H3 → D'.nx σ3 H3) → tu D' σ H1)
    (h2 : b = false → ∀ H1, Up B H H1 → M σ H1) : tIfS t tu tNext D σ H := s_if e h (fun hb H1 u => h1 hb H1 u D hM) (fun hb H1 u => hM σ H1 (h2 hb H1 u))
theorem eqv_nilG (ds : List Dt) : PyData.eqv (Dt.lst ds).py (Dt.lst []).py = ds.isEmpty := by
  cases ds <;> simp [Dt.py, pyAll, PyData.eqv, PyData.eqvAll]
/-! ### (s, s', ..).index(e), the tuple written there -/
def tTupIdx (t : TA) (te : TE) : TE := fun σ H Q => t σ H fun xs H1 => xs.length ≤ sizeLine ∧ ∀ p, H1 p = none → tCons te tNil σ (upd H1 p (.tup xs)) fun vs H2 => ∃ (ys : List Str) (z : Str) (j : Nat),
  xs = ys.map V.str ∧ vs = [.str z] ∧ H2 p = some (.tup xs) ∧ ys[j]? = some z ∧ (∀ m, m < j → ys[m]? ≠ some z) ∧ Q (.int (j : Nat)) H2
open PySem.Spec PyProof.Rows in
theorem pe_tupIdx {X : Cx} {es : List Expr} {e : Expr} {x1} {p1 apos cpos : Pos} {t : TA} {te : TE} (h : PA X es t) (he : PE X e te)
    (base : attributeBase (.Tuple es x1 p1) "index" X.env (eval (.Tuple es x1 p1) X.env) = eval (.Tuple es x1 p1) X.env := by rfl)
    (few : ((backTo cpos (starEach [e] X.env)).all (fun x => !x.1) && (backToKw cpos (keywordEach [] X.env)).all (fun x => x.1.isSome) && decide ([e].length + ([] : List Keyword).length + (if ([] : List Keyword).isEmpty then 0 else 1) < 30)) = true := by rfl)
    (line : (apos.endLine == cpos.line) = true := by rfl) (one : starEach [e] X.env = (false, eval e X.env) :: starEach [] X.env := by rfl) :
    PE X (.Call (.Attribute (.Tuple es x1 p1) "index" apos) [e] [] cpos) (tTupIdx t te) := by
  constructor
  intro pins s σ H Q I hq
  refine wpAny_Call_method_late base few line rfl (wpAny_Tuple_spliced (thn (h.run p1 pins s σ H _ I hq) ?_))
  rintro us s1 ⟨xs, H1, I1, r, z, q⟩
  refine ⟨by rw [← r.length]; exact z, ?_⟩
  have hf : H1 s1.heap.objs.size = none := I1.hok.fresh (Nat.le_refl _)
  have got := Heap.get?_push_size s1.heap (o := { cls := .type "tuple", data := .seq us.toArray }) rfl
  have I2 : Inv X pins σ (upd H1 s1.heap.objs.size (.tup xs)) { s1 with heap := s1.heap.push { cls := .type "tuple", data := .seq us.toArray } } :=
    I1.laid (t' := s1.toks) (fun b u e => Heap.get?_push_of_some _ e) (Nat.le_refl _) ⟨z, us, r, ⟨_, got, rfl, _, rfl⟩⟩
  refine ⟨"tuple", "tuple.index", PySem.F.plainAttrs_tuple, PySem.F.slot_tuple_index, PySem.F.type_tuple_index, ⟨_, got, rfl⟩, fun a ea => by cases ea; exact ⟨_, got, rfl⟩, ?_⟩
  have args := (pa_cons he pa_nil one).run cpos pins _ σ _ _ I2 (q _ hf)
  rw [one] at args ⊢
  refine Calls.callWith_builtin (by rfl) (Calls.evalArgs_plain (thn args ?_))
  rintro ws s2 ⟨vs, H2, I3, r2, ys, zz, j, e1, e2, e3, e4, e5, q2⟩
  rw [e2] at r2
  exact mt_tup_index pins s2 σ H2 (.ref s1.heap.objs.size) [.str zz] _ ws Q I3 rfl r2 ⟨_, ys, zz, j, rfl, rfl, by rw [← e1]; exact SqT.of e3, e4, e5, q2⟩
theorem ev_idx {σ : L2.St} {B : Hp} {te : TE} {t : TA} {b : Bool} (h : EvRA t σ B [.str "x", .str "y"]) (he : EvR te σ B (.str (axS b))) : EvR (tTupIdx t te) σ B (.int (if b = true then 0 else 1)) := fun H1 e Q q =>
  h H1 e _ fun vs B2 H2 n ra => by
    refine ⟨by rw [ra.len]; show 2 ≤ sizeLine; decide, fun p hp => ?_⟩
    have e2 : Ex B2 (upd H2 p (.tup vs)) := n.sub.trans (Evl.Ex.new hp)
    refine (he.mono n.ext) _ e2 _ fun v B3 H3 n3 rv => ?_
    obtain ⟨h1, _⟩ := ra.fl rfl
    obtain ⟨h2, _⟩ := rv.fl rfl
    have hx : (("x" : Str) = "y") → False := by decide +kernel
    have n4 : New B H1 B3 H3 := n.trans ((New.grow e2 (Evl.Ex.new hp) n.sub).trans n3)
    cases b with
    | true => exact ⟨["x", "y"], "x", 0, h1, by rw [h2]; rfl, n3.heap _ _ upd_same, rfl, fun m hm => absurd hm (Nat.not_lt_zero _), q _ B3 H3 n4 (.int _)⟩
    | false => exact ⟨["x", "y"], "y", 1, h1, by rw [h2]; rfl, n3.heap _ _ upd_same, rfl, fun m hm z => by
        have : m = 0 := by omega
        subst this
        exact hx (Option.some.inj z), q _ B3 H3 n4 (.int _)⟩
/-! ### facts -/
structure Fa where
  ax : Bool
  i : Int
  j : Int
  l : Int
abbrev eFa (f : Fa) : Dt := .tup [.str (axS f.ax), .int f.i, .int f.j, .int f.l]
abbrev eFas (fs : List Fa) : Dt := .lst (fs.map eFa)
def Fa.n (f : Fa) (a b : Int) : Int := if f.ax = true then a else b
def FaOk (a b : Int) (f : Fa) : Prop := 0 ≤ f.i ∧ f.i < f.n a b ∧ 0 ≤ f.j ∧ f.j < f.n a b ∧ -6 ≤ f.l ∧ f.l ≤ 6
theorem fit_axS (b : Bool) : (Dt.str (axS b)).fit = true ∧ (Dt.str (axS b)).wt = 2 := by cases b <;> decide +kernel
theorem fitAll_fas {a b : Int} (ha : a ≤ 100) (hb : b ≤ 100) : ∀ (fs : List Fa), (∀ f ∈ fs, FaOk a b f) → fitAll (fs.map eFa) = true ∧ wtAll (fs.map eFa) = 6 * fs.length ∧ depAll (fs.map eFa) ≤ 1
  | [], _ => ⟨by simp [fitAll], by simp [wtAll], by simp [depAll]⟩
  | f :: fs, h => by
    obtain ⟨h1, h2, h3⟩ := fitAll_fas ha hb fs fun g hg => h g (List.mem_cons_of_mem _ hg)
    obtain ⟨i0, i1, j0, j1, l0, l1⟩ := h f List.mem_cons_self
    have hn : f.n a b ≤ 100 := by unfold Fa.n; split <;> assumption
    obtain ⟨q1, q2⟩ := fit_axS f.ax
    refine ⟨?_, ?_, ?_⟩
    · rw [List.map_cons, fitAll, h1, Dt.fit, fitAll, fitAll, fitAll, fitAll, fitAll, q1, Dt.fit, Dt.fit, Dt.fit, decide_eq_true (by omega), decide_eq_true (by omega), decide_eq_true (by omega)]; rfl
    · rw [List.map_cons, wtAll, h2, Dt.wt, wtAll, wtAll, wtAll, wtAll, wtAll, q2, Dt.wt, Dt.wt, Dt.wt, List.length_cons]; omega
    · rw [List.map_cons, depAll, Dt.dep, depAll, depAll, depAll, depAll, depAll, Dt.dep, Dt.dep, Dt.dep, Dt.dep]; omega
theorem canLay_fas : ∀ (fs : List Fa), PyData.canLayAll0 (pyAll (fs.map eFa)) = true
  | [] => by simp [pyAll, PyData.canLayAll0]
  | f :: fs => by
    have h : (Dt.str (axS f.ax)).py.canLay0 = true := by cases f.ax <;> decide +kernel
    rw [List.map_cons, pyAll, PyData.canLayAll0, canLay_fas fs, Dt.py, PyData.canLay0, pyAll, pyAll, pyAll, pyAll, pyAll, PyData.canLayAll0, h, Dt.py, Dt.py, Dt.py]
    rfl
theorem depAll_fas : ∀ (fs : List Fa), depAll (fs.map eFa) ≤ 1
  | [] => by simp [depAll]
  | f :: fs => by
    have := depAll_fas fs
    rw [List.map_cons, depAll, Dt.dep, depAll, depAll, depAll, depAll, depAll, Dt.dep, Dt.dep, Dt.dep, Dt.dep]; omega
theorem shaped_fas {fs : List Fa} : SeqAt.shaped (eFas fs).py = true := by
  have := depAll_fas fs
  unfold SeqAt.shaped
  rw [dep_py, Dt.dep, Dt.py, PyData.canLay0, canLay_fas]
  simp only [Bool.true_and, decide_eq_true_eq]
  omega
/-- facts beside settings, in one list -/
theorem fit_pair {fs : List Fa} {p q : List Int} {a b : Int} (ha : a ≤ 100) (hb : b ≤ 100) (hf : ∀ f ∈ fs, FaOk a b f) (lf : fs.length ≤ 1000) (hp : ∀ n ∈ p, n.natAbs < 10 ^ 60) (hq : ∀ n ∈ q, n.natAbs < 10 ^ 60) (lp : p.length ≤ 1000) (lq : q.length ≤ 1000) : Fit (.lst [eFas fs, eSet p q]) := by
  obtain ⟨h1, h2, h3⟩ := fitAll_fas ha hb fs hf
  have s := fit_eSet hp hq lp lq
  have s2 := s.wt
  have s3 : (eSet p q).dep = 2 := by rw [Dt.dep, depAll, depAll, depAll, Dt.dep, Dt.dep, depAll_ints, depAll_ints]; rfl
  have s4 : (eSet p q).wt = p.length + q.length + 3 := by rw [Dt.wt, wtAll, wtAll, wtAll, Dt.wt, Dt.wt, wtAll_ints, wtAll_ints]; omega
  refine ⟨?_, ?_, ?_⟩
  · rw [Dt.fit, fitAll, fitAll, fitAll, s.fit, Dt.fit, h1]; rfl
  · rw [Dt.wt, wtAll, wtAll, wtAll, s4, Dt.wt, h2]; omega
  · rw [Dt.dep, depAll, depAll, depAll, s3, Dt.dep]; omega
end U

namespace U
open PySem PySem.Spec PyProof.Rows L2
section
variable {P : Program} {w : World} {A : Around} {E : Value → Shared → Prop} {s : Shared}
abbrev set0 (w : World) : Obj := { cls := .type "set", dict := none, data := .set #[] 0 (.fresh 0 0 (!w.params.followText "set-order")) }
/-- what comes of it -/
def Made (w : World) (s : Shared) (ns : List Int) (s2 : Shared) : Prop := ∃ h' tk c, s2 = { s with heap := h', toks := tk } ∧ SetR w h' s.heap.objs.size (fun j => decide (j ∈ ns)) c ∧ ∀ b o, s.heap.get? b = some o → h'.get? b = some o
/-- its members put in -/
theorem fill_list {l : Addr} {items : Array Value} {ns : List Int} (hh : A.handled = none) (hl : s.heap.IsList l items) (hit : IntsAre items.toList ns) (hb : ns.length + 1 < scanBound) :
    codeAny (model P w) A (.builtin "set.update.loop" ⟨[.ref s.heap.objs.size, .ref (s.heap.push (set0 w)).objs.size], []⟩) (wants (fun r s2 => r = .none ∧ Made w s ns s2) E)
      { s with heap := (s.heap.push (set0 w)).push { cls := .type "list_iterator", data := .fields #[.ref l, .int 0 0] } } := by
  have hisz : items.size = ns.length := by
    have q := IntsAre.length hit
    rw [Array.length_toList] at q
    exact q
  have hlS : l < s.heap.objs.size := by
    obtain ⟨o, ho, _⟩ := hl
    exact Heap.lt_size ho
  have hS : (s.heap.push (set0 w)).get? s.heap.objs.size = some (set0 w) := Heap.get?_push_size _ rfl
  have hz1 : (s.heap.push (set0 w)).objs.size = s.heap.objs.size + 1 := Heap.size_push ..
  have hl1 : (s.heap.push (set0 w)).IsList l items := hl.push _
  have hneI : l ≠ (s.heap.push (set0 w)).objs.size := by rw [hz1]; exact Nat.ne_of_lt (Nat.lt_succ_of_lt hlS)
  have hSf : s.heap.objs.size ∉ [(s.heap.push (set0 w)).objs.size, l] := by
    rw [hz1]; simp only [List.mem_cons, List.mem_singleton, List.not_mem_nil, or_false, not_or]
    exact ⟨Nat.ne_of_lt (Nat.lt_succ_self _), Nat.ne_of_gt hlS⟩
  have hval : ∀ (i : Nat) (v : Value), items[i]? = some v → ∃ k t, ns[i]? = some k ∧ v = .int k t := fun i v hv => by
    have hi : i < ns.length := by rw [← hisz]; exact (Array.getElem?_eq_some_iff.mp hv).1
    obtain ⟨t, e⟩ := IntsAre.int_at hit i v (by rw [Array.getElem?_toList]; exact hv)
    refine ⟨ns[i], t, List.getElem?_eq_getElem hi, ?_⟩
    rw [e, List.getD_eq_getElem?_getD, List.getElem?_eq_getElem hi] <;> rfl
  refine set_update_ints ((Walks.list (A := A.in1) (by simp [hh]) _ l hneI items).toS) s.heap.objs.size hSf ns hisz hb hval (items.size - 0) 0 _ (by omega) (Nat.zero_le _)
    ⟨⟨_, Heap.get?_push_size _ rfl, rfl, rfl⟩, (hl1.push _)⟩ ⟨0, Nat.le_refl 0, setR_new_at (Heap.get?_push_of_some _ hS)⟩ fun s' c' hm hc' hS' => ?_
  obtain ⟨h', g2, d', tk', os'⟩ := s'
  have eg : g2 = s.gens := hm.gens
  have ed : d' = s.drawn := hm.drawn
  have eo : os' = s.os := hm.os
  subst eg; subst ed; subst eo
  refine ⟨rfl, h', tk', c', rfl, hS', fun b o e => ?_⟩
  have hb0 : b < s.heap.objs.size := Heap.lt_size e
  exact hm.heap b o (by rw [hz1]; simp only [List.mem_cons, List.mem_singleton, List.not_mem_nil, or_false, not_or]; exact ⟨Nat.ne_of_lt hb0, Nat.ne_of_lt (Nat.lt_succ_of_lt hb0)⟩) (Heap.get?_push_of_some _ (Heap.get?_push_of_some _ e))
set_option maxHeartbeats 3200000 in
theorem call_set_listI {l : Addr} {items : Array Value} (ns : List Int) {Q : Value → Shared → Prop} (hh : A.handled = none) (hl : s.heap.IsList l items) (hit : IntsAre items.toList ns) (hb : ns.length + 1 < scanBound)
    (h : ∀ s2, Made w s ns s2 → Q (.ref s.heap.objs.size) s2) : wpAny (model P w) A (call (.type "set") [.ref l]) Q E s := by
  obtain ⟨c, tl, hmro⟩ := F.called_set.mro
  have hmade := F.called_set.made
  have hsub := F.called_set.sub
  refine wpAny_call (codeAny_of_tree ?_)
  refine wpAny_pure ⟨Code.quiet_builtin _ (by decide +kernel), codeAny_builtin F.entry_type_call ?_⟩
  rw [Around.under_plain (weight_type_call_type "set" [.ref l] []) rfl]
  have h1 := F.called_set.notType
  have h2 := F.called_set.canCreate
  have hct := F.typeCall_set_1 (.ref l)
  repeat (any_goals (first | assumption | wp_step))
  refine codeAny_mono (code_set_led1 (.ref l) (E := E) (Q₁ := fun obj s₁ => obj = .ref s.heap.objs.size ∧ s₁ = { s with heap := s.heap.push (set0 w) }) ⟨rfl, rfl⟩) fun r s₁ hr => ?_
  cases r with
  | error e => exact hr
  | ok fl =>
    cases fl with
    | ret obj =>
      obtain ⟨rfl, rfl⟩ := hr
      have hT : Shared.TypeIs { s with heap := s.heap.push (set0 w) } (.ref s.heap.objs.size) "set" := ⟨_, Heap.get?_push_size _ rfl, rfl⟩
      have hli := F.called_set.init.lookup
      have hbi := F.called_set.init.bind (.ref s.heap.objs.size)
      repeat (any_goals (first | assumption | wp_step))
      refine codeAny_mono (codeAny_call_builtin (R := wants (fun r s₂ => r = .none ∧ Made w s ns s₂) E) F.called_set.init.plain F.entry_set_init (check_set_init_1 hT ?_)) fun r₂ s₂ hr₂ => ?_
      · have hl0 := hl
        obtain ⟨ol, hol, hcl, nl, hdl⟩ := hl
        obtain ⟨ocls, odict, odata, oslots⟩ := ol
        simp only at hcl hdl
        subst hcl; subst hdl
        have hol' := Heap.get?_push_of_some (set0 w) hol
        have hsls := F.sub_list_set
        have hslf := F.sub_list_frozenset
        have hne : (Value.type "list" == Value.type "dict") = false := by decide
        unfold Builtin.«set.__init__» noKeywords Builtin.Frozenset.updateFrom
        generalize hPI : pyIter = PI
        wp_walk
        subst hPI
        refine wpAny_pyIter_list (hl0.push _) ?_
        refine wpAny_bind (wpAny_runValue ?_)
        refine codeAny_mono (fill_list (E := E) (by simp [hh]) hl0 hit hb) fun r3 s3 hr3 => ?_
        cases r3 with
        | error e => exact hr3
        | ok fl3 =>
          cases fl3 with
          | ret r =>
            obtain ⟨rfl, m3⟩ := hr3
            show wpAny _ _ _ _ _ _
            refine wpAny_pure ?_
            show wpAny _ _ (ret Value.none) _ _ _
            exact wpAny_pure ⟨rfl, m3⟩
          | _ => exact hr3.elim
      · cases r₂ with
        | error e => exact hr₂
        | ok fl₂ =>
          cases fl₂ with
          | ret r =>
            obtain ⟨rfl, m2⟩ := hr₂
            repeat (any_goals (first | assumption | wp_step))
            exact h _ m2
          | _ => exact hr₂.elim
    | _ => exact hr.elim
end
end U

namespace U
/-- f is what closing for w makes of the values ns -/
def IsClo (w : Int) (ns : List Int) (f : Int → Int) : Prop :=
  (∀ m ∈ ns, (∀ x ∈ ns, m ≤ x) → f m = 0) ∧ ∀ a ∈ ns, ∀ b ∈ ns, a < b → (∀ c ∈ ns, c ≤ a ∨ b ≤ c) → f b = f a + min (b - a) (w + 1)
/-- the next lower one -/
def pre (ns : List Int) (v : Int) : Option Int := if ns.filter (fun x => decide (x < v)) = [] then none else some (-minL ((ns.filter fun x => decide (x < v)).map (- ·)))
theorem pre_none {ns : List Int} {v : Int} (h : pre ns v = none) : ∀ x ∈ ns, v ≤ x := fun x hx => by
  unfold pre at h
  split at h
  next e =>
    have := List.filter_eq_nil_iff.mp e x hx
    simp at this
    exact this
  · cases h
theorem pre_some {ns : List Int} {v a : Int} (h : pre ns v = some a) : a ∈ ns ∧ a < v ∧ ∀ c ∈ ns, c ≤ a ∨ v ≤ c := by
  unfold pre at h
  split at h
  · cases h
  next e =>
    cases h
    have hn : ((ns.filter fun x => decide (x < v)).map (- ·)) ≠ [] := fun z => e (List.map_eq_nil_iff.mp z)
    obtain ⟨y, hy, ey⟩ := List.mem_map.mp (minL_mem hn)
    have hy2 := List.mem_filter.mp hy
    have e2 : -minL ((ns.filter fun x => decide (x < v)).map (- ·)) = y := by rw [← ey]; omega
    rw [e2]
    refine ⟨hy2.1, by simpa using hy2.2, fun c hc => ?_⟩
    by_cases hv : c < v
    · left
      have := minL_le (List.mem_map_of_mem (f := (- ·)) (List.mem_filter.mpr ⟨hc, by simpa using hv⟩) : -c ∈ ((ns.filter fun x => decide (x < v)).map (- ·)))
      omega
    · right; omega
theorem pre_is {ns : List Int} {a v : Int} (ha : a ∈ ns) (h : a < v) (k : ∀ c ∈ ns, c ≤ a ∨ v ≤ c) : pre ns v = some a := by
  cases e : pre ns v with
  | none => have := pre_none e a ha; omega
  | some b =>
    obtain ⟨h1, h2, h3⟩ := pre_some e
    have := k b h1
    have := h3 a ha
    rw [show b = a by omega]
def cl (w : Int) (ns : List Int) : Nat → Int → Int
  | 0, _ => 0
  | n + 1, v => match pre ns v with
    | none => 0
    | some a => cl w ns n a + min (v - a) (w + 1)
theorem cl_fuel {w : Int} {ns : List Int} : ∀ (n m : Nat) (v : Int), v ∈ ns → (v - minL ns).toNat ≤ n → (v - minL ns).toNat ≤ m → cl w ns n v = cl w ns m v := by
  have hz : ∀ (m : Nat) (v : Int), v ∈ ns → (v - minL ns).toNat = 0 → cl w ns m v = 0 := fun m v hv h => by
    cases m with
    | zero => rfl
    | succ m =>
      unfold cl
      cases e : pre ns v with
      | none => rfl
      | some a =>
        obtain ⟨h1, h2, _⟩ := pre_some e
        have := minL_le h1
        omega
  intro n
  induction n with
  | zero => intro m v hv h1 h2; rw [hz 0 v hv (by omega), hz m v hv (by omega)]
  | succ n ih =>
    intro m v hv h1 h2
    cases m with
    | zero => rw [hz 0 v hv (by omega), hz _ v hv (by omega)]
    | succ m =>
      unfold cl
      cases e : pre ns v with
      | none => rfl
      | some a =>
        obtain ⟨g1, g2, _⟩ := pre_some e
        have := minL_le g1
        show cl w ns n a + _ = cl w ns m a + _
        rw [ih m a g1 (by omega) (by omega)]
def clo (w : Int) (ns : List Int) (v : Int) : Int := cl w ns (v - minL ns).toNat v
theorem clo_is (w : Int) (ns : List Int) : IsClo w ns (clo w ns) := by
  constructor
  · intro m hm h
    unfold clo
    have : (m - minL ns).toNat = 0 := by
      have := h _ (minL_mem (List.ne_nil_of_mem hm))
      omega
    rw [this]; rfl
  · intro a ha b hb h k
    have h1 := minL_le ha
    obtain ⟨n, hn⟩ : ∃ n, (b - minL ns).toNat = n + 1 := ⟨(b - minL ns).toNat - 1, by omega⟩
    have e : cl w ns (n + 1) b = cl w ns n a + min (b - a) (w + 1) := by
      show (match pre ns b with | none => (0 : Int) | some a => cl w ns n a + min (b - a) (w + 1)) = _
      rw [pre_is ha h k]
    show cl w ns _ b = cl w ns _ a + _
    rw [hn, e, cl_fuel n _ a ha (by omega) (Nat.le_refl _)]
theorem clo_uniq {w : Int} {ns : List Int} {f g : Int → Int} (hf : IsClo w ns f) (hg : IsClo w ns g) : ∀ (n : Nat) (v : Int), v ∈ ns → (v - minL ns).toNat ≤ n → f v = g v := by
  intro n
  induction n with
  | zero =>
    intro v hv h
    have k : ∀ x ∈ ns, v ≤ x := fun x hx => by have := minL_le hx; omega
    rw [hf.1 v hv k, hg.1 v hv k]
  | succ n ih =>
    intro v hv h
    cases e : pre ns v with
    | none => rw [hf.1 v hv (pre_none e), hg.1 v hv (pre_none e)]
    | some a =>
      obtain ⟨g1, g2, g3⟩ := pre_some e
      have := minL_le g1
      rw [hf.2 a g1 v hv g2 g3, hg.2 a g1 v hv g2 g3, ih a g1 (by omega)]
theorem clo_mono {w : Int} {ns : List Int} {f : Int → Int} (hf : IsClo w ns f) (hw : 0 ≤ w) : ∀ (n : Nat) (a b : Int), a ∈ ns → b ∈ ns → a < b → (b - minL ns).toNat ≤ n → f a < f b := by
  intro n
  induction n with
  | zero => intro a b ha hb h k; have := minL_le ha; omega
  | succ n ih =>
    intro a b ha hb h k
    cases e : pre ns b with
    | none => have := pre_none e a ha; omega
    | some c =>
      obtain ⟨g1, g2, g3⟩ := pre_some e
      have := minL_le g1
      have e1 := hf.2 c g1 b hb g2 g3
      have q := g3 a ha
      by_cases z : a = c
      · subst z; omega
      · have := ih a c ha g1 (by omega) (by omega)
        omega
theorem clo_range {w : Int} {ns : List Int} {f : Int → Int} (hf : IsClo w ns f) (hw : 0 ≤ w) : ∀ (n : Nat) (v : Int), v ∈ ns → (v - minL ns).toNat ≤ n → 0 ≤ f v ∧ f v ≤ v - minL ns := by
  intro n
  induction n with
  | zero =>
    intro v hv h
    have k : ∀ x ∈ ns, v ≤ x := fun x hx => by have := minL_le hx; omega
    have := minL_le hv
    rw [hf.1 v hv k]
    omega
  | succ n ih =>
    intro v hv h
    have := minL_le hv
    cases e : pre ns v with
    | none => rw [hf.1 v hv (pre_none e)]; omega
    | some a =>
      obtain ⟨g1, g2, g3⟩ := pre_some e
      have := minL_le g1
      have := ih a g1 (by omega)
      rw [hf.2 a g1 v hv g2 g3]
      omega
def cloR (w : Int) (ns : List Int) : List Int := ns.map (clo w ns)
theorem cloR_of {w : Int} {ns : List Int} {f : Int → Int} (hf : IsClo w ns f) : ns.map f = cloR w ns := List.map_congr_left fun v hv => clo_uniq hf (clo_is w ns) _ v hv (Nat.le_refl _)
theorem cloR_len (w : Int) (ns : List Int) : (cloR w ns).length = ns.length := by unfold cloR; rw [List.length_map]
theorem cloR_cloR {w w' : Int} {ns : List Int} (hw : 0 ≤ w) (h : w ≤ w') : cloR w' (cloR w ns) = cloR w ns := by
  have hf := clo_is w ns
  have mono : ∀ a b, a ∈ ns → b ∈ ns → clo w ns a < clo w ns b → a < b := fun a b ha hb q => by
    rcases Int.lt_trichotomy a b with z | z | z
    · exact z
    · subst z; omega
    · have := clo_mono hf hw _ b a hb ha z (Nat.le_refl _); omega
  have up : ∀ a b, a ∈ ns → b ∈ ns → a ≤ b → clo w ns a ≤ clo w ns b := fun a b ha hb q => by
    by_cases z : a = b
    · subst z; exact Int.le_refl _
    · have := clo_mono hf hw _ a b ha hb (by omega) (Nat.le_refl _); omega
  have k : IsClo w' (cloR w ns) id := by
    constructor
    · intro m hm h
      obtain ⟨v, hv, rfl⟩ := List.mem_map.mp hm
      have h1 := clo_range hf hw _ v hv (Nat.le_refl _)
      have h2 := h _ (List.mem_map_of_mem (minL_mem (List.ne_nil_of_mem hv)))
      have h3 : clo w ns (minL ns) = 0 := hf.1 _ (minL_mem (List.ne_nil_of_mem hv)) fun x hx => minL_le hx
      show clo w ns v = 0
      omega
    · intro a' ha b' hb hab hc
      obtain ⟨a, ha0, rfl⟩ := List.mem_map.mp ha
      have ha := ha0
      obtain ⟨b, hb0, rfl⟩ := List.mem_map.mp hb
      have hb := hb0
      have hl := mono a b ha hb hab
      have e := hf.2 a ha b hb hl fun c hc' => by
        rcases hc _ (List.mem_map_of_mem hc') with z | z
        · left
          by_cases q : c ≤ a
          · exact q
          · have := clo_mono hf hw _ a c ha hc' (by omega) (Nat.le_refl _); omega
        · right
          by_cases q : b ≤ c
          · exact q
          · have := clo_mono hf hw _ c b hc' hb (by omega) (Nat.le_refl _); omega
      show clo w ns b = clo w ns a + min (clo w ns b - clo w ns a) (w' + 1)
      omega
  rw [← cloR_of k, List.map_id]
theorem cloR_shift {w : Int} {ns : List Int} {k : Int} : cloR w (ns.map (· + k)) = cloR w ns := by
  have hf := clo_is w ns
  have q : IsClo w (ns.map (· + k)) (fun v => clo w ns (v - k)) := by
    constructor
    · intro m hm h
      obtain ⟨v, hv, rfl⟩ := List.mem_map.mp hm
      show clo w ns (v + k - k) = 0
      rw [Int.add_sub_cancel]
      exact hf.1 v hv fun x hx => by have := h _ (List.mem_map_of_mem hx); omega
    · intro a' ha b' hb hab hc
      obtain ⟨a, ha0, rfl⟩ := List.mem_map.mp ha
      have ha := ha0
      obtain ⟨b, hb0, rfl⟩ := List.mem_map.mp hb
      have hb := hb0
      show clo w ns (b + k - k) = clo w ns (a + k - k) + min (b + k - (a + k)) (w + 1)
      rw [Int.add_sub_cancel, Int.add_sub_cancel, hf.2 a ha b hb (by omega) fun c hc' => by have := hc _ (List.mem_map_of_mem hc'); omega]
      congr 2
      omega
  rw [← cloR_of q, List.map_map]
  exact List.map_congr_left fun v _ => by show clo w ns (v + k - k) = _; rw [Int.add_sub_cancel]
/-- the next one of an ascending list of the values -/
theorem clo_next {w : Int} {ns o : List Int} (hw : 0 ≤ w) (hm : ∀ x, x ∈ o ↔ x ∈ ns) (hs : o.Pairwise (· ≤ ·)) {i : Nat} {b c : Int} (hb : o[i]? = some b) (hc : o[i + 1]? = some c) : clo w ns c = clo w ns b + min (c - b) (w + 1) := by
  have at_ : ∀ {j k : Nat} {x y : Int}, o[j]? = some x → o[k]? = some y → j ≤ k → x ≤ y := fun {j k x y} hx hy h => by
    obtain ⟨h1, rfl⟩ := List.getElem?_eq_some_iff.mp hx
    obtain ⟨h2, rfl⟩ := List.getElem?_eq_some_iff.mp hy
    rcases Nat.lt_or_eq_of_le h with z | z
    · exact List.pairwise_iff_getElem.mp hs j k h1 h2 z
    · subst z; exact Int.le_refl _
  have hbc := at_ hb hc (by omega)
  have hbm := (hm b).mp (List.mem_of_getElem? hb)
  have hcm := (hm c).mp (List.mem_of_getElem? hc)
  by_cases z : b = c
  · subst z; omega
  · refine (clo_is w ns).2 b hbm c hcm (by omega) fun x hx => ?_
    obtain ⟨j, hj⟩ := List.mem_iff_getElem?.mp ((hm x).mpr hx)
    rcases Nat.lt_or_ge i j with q | q
    · exact .inr (at_ hc hj (by omega))
    · exact .inl (at_ hj hb (by omega))
theorem clo_first {w : Int} {ns o : List Int} (hm : ∀ x, x ∈ o ↔ x ∈ ns) (hs : o.Pairwise (· ≤ ·)) {b : Int} (hb : o[0]? = some b) : clo w ns b = 0 := by
  refine (clo_is w ns).1 b ((hm b).mp (List.mem_of_getElem? hb)) fun x hx => ?_
  obtain ⟨j, hj⟩ := List.mem_iff_getElem?.mp ((hm x).mpr hx)
  obtain ⟨h1, rfl⟩ := List.getElem?_eq_some_iff.mp hb
  obtain ⟨h2, rfl⟩ := List.getElem?_eq_some_iff.mp hj
  rcases Nat.eq_zero_or_pos j with z | z
  · subst z; exact Int.le_refl _
  · exact List.pairwise_iff_getElem.mp hs 0 j h1 h2 z
end U

namespace U
open PySem L2
open Evl (Ex fresh_back sz_of sz_lt sq_of st_of rLenS rListS)
section
variable {K : PySem.W.Frag} {σ : L2.St} {B B' H : Hp} {ta tb te tc tk tv : TE} {t : TT} {x y z d : Dt} {ds es : List Dt} {b : Bool} {D : Ends} {i j k l n : Nat} {ns ms : List Int} {tu : TS} {g : TG}
theorem R.eI_inv {v : V} (h : R B v (eI ns)) : ∃ p, v = .ref p ∧ B p = some (.lst (ns.map V.int)) := by
  obtain ⟨p, vs, rfl, hp, ra⟩ := h.lst_inv
  exact ⟨p, rfl, by rw [← ra.ints_inv]; exact hp⟩
theorem nodup_len : ∀ {ms ns : List Int}, ms.Nodup → (∀ x ∈ ms, x ∈ ns) → ms.length ≤ ns.length
  | [], _, _, _ => Nat.zero_le _
  | m :: ms, ns, nd, h => by
    have hm := h m List.mem_cons_self
    have nd2 := List.nodup_cons.mp nd
    have := nodup_len (ms := ms) (ns := ns.erase m) nd2.2 fun x hx => (List.mem_erase_of_ne (fun z => by subst z; exact nd2.1 hx)).mpr (h x (List.mem_cons_of_mem _ hx))
    have e := List.length_erase_of_mem hm
    have p := List.length_pos_of_mem hm
    rw [List.length_cons]
    omega
/-- q = sorted(e) -/
theorem s_sortedI {q : Nat} (e : Ex B H) (h : EvR ta σ B (eI ns)) (k : ∀ o v B1 H1, o.Perm ns → o.Pairwise (· ≤ ·) → New B H B1 H1 → R B1 v (eI o) → D.nx (σ.set q (some v)) H1) : tAsg (tCB (rSortedI K) (tCons ta tNil)) (gName q) D σ H :=
  h H e _ fun v B1 H1 n rv => by
    obtain ⟨p, rfl, hp⟩ := rv.eI_inv
    exact ⟨p, ns, rfl, sq_of (n.sub _ _ hp), fun o q hm hs hq => k o _ _ _ hm hs (n.trans (New.one n.sub hq)) (.lst upd_same (RA.ints o))⟩
/-- set(e) -/
def rSetL (w : World) (K : PySem.W.Frag) : List V → Hp → VK → Prop := fun vs H Q => ∃ (p : Addr) (ns : List Int), vs = [.ref p] ∧ SqL K H p (ns.map V.int) ∧ ns.length ≤ 1000 ∧
  ∀ (q : Addr) (ms : List Int), ms.Nodup → (∀ k, k ∈ ms ↔ k ∈ ns) → H q = none → Q (.ref q) (upd H q (SetO w q (fun j => decide (j ∈ ns)) ms.length))
theorem cr_setL {X : Cx} (hc : X.calm = true) : CallR X (.type "set") (rSetL X.w X.K) := by
  intro pins s σ H vs us Q I r h
  obtain ⟨p, ns, rfl, hs, hl, q⟩ := h
  obtain ⟨its, rv, pl, hz⟩ := I.list hs
  rw [Vals.ref1 r]
  refine call_set_listI (E := X.xe) ns (I.ok.hd hc) pl.isList (ints_of_vals (by simpa using rv)) (by unfold scanBound; omega) fun s2 m => ?_
  obtain ⟨h', tk, c, rfl, R1, kp⟩ := m
  have hn : H s.heap.objs.size = none := I.hok.fresh (Nat.le_refl _)
  have R2 := R1
  obtain ⟨o, es, ep, t, ho, hex, hdt, g, nd, hm, hb, hf, hc2, hr, hl2⟩ := R2
  have hcl : (es.toList.map keyOf).length = c := by rw [List.length_map, Array.length_toList]; exact hc2
  rw [← hcl] at R1
  exact ⟨.ref s.heap.objs.size, _, I.laid (t' := tk) kp (Nat.le_refl _) (setO_new R1), rfl, q _ _ nd (fun k => by rw [← hm k, decide_eq_true_eq]) hn⟩
theorem k_setL {X : Cx} {w : World} (h : X.K = K) (hw : X.w = w) (hc : X.calm = true) : CallR X (.type "set") (rSetL w K) := h ▸ hw ▸ cr_setL hc
theorem k_sortedSet {X : Cx} {w : World} (hw : X.w = w) (hc : X.calm = true) : CallR X (.builtin "sorted") (rSortedSet w) := hw ▸ cr_sortedSet hc
/-- q = sorted(set(e)) -/
theorem s_sortedS {q : Nat} {w : World} (e : Ex B H) (h : EvR ta σ B (eI ns)) (hl : ns.length < 64) (k : ∀ o v B1 H1, (∀ x, x ∈ o ↔ x ∈ ns) → o.Pairwise (· < ·) → New B H B1 H1 → R B1 v (eI o) → D.nx (σ.set q (some v)) H1) :
    tAsg (tCB (rSortedSet w) (tCons (tCB (rSetL w K) (tCons ta tNil)) tNil)) (gName q) D σ H :=
  h H e _ fun v B1 H1 n rv => by
    obtain ⟨p, rfl, hp⟩ := rv.eI_inv
    refine ⟨p, ns, rfl, sq_of (n.sub _ _ hp), by omega, fun q ms nd hm hq => ⟨q, _, _, rfl, upd_same, ?_, fun o p2 hs ho hlen hp2 => ?_⟩⟩
    · have := nodup_len nd fun x hx => (hm x).mp hx
      omega
    · have n1 : New B1 H1 B1 (upd H1 q (SetO w q (fun j => decide (j ∈ ns)) ms.length)) := New.grow (n.sub.trans (Ex.new hq)) (Ex.new hq) n.sub
      exact k o _ _ _ (fun x => by rw [ho x, decide_eq_true_eq]) hs (n.trans (n1.trans (New.one n1.sub hp2))) (.lst upd_same (RA.ints o))
/-- e[1:] -/
theorem cut1 : cutV (ns.map V.int) (some 1) none = (ns.drop 1).map V.int := by
  have e1 : HT.sIx (ns.map V.int).length 0 (some 1) = min 1 ns.length := by rw [List.length_map]; exact HT.sIx_nat _ _ 1
  have e2 : HT.sIx (ns.map V.int).length (ns.map V.int).length none = ns.length := by rw [HT.sIx_none, List.length_map]
  unfold cutV
  rw [e1, e2, List.take_of_length_le (by rw [List.length_drop, List.length_map]; omega)]
  cases ns with
  | nil => rfl
  | cons n ns => rw [show min 1 (n :: ns).length = 1 by rw [List.length_cons]; omega]; rfl
theorem ev_sl1 (h : EvR ta σ B (eI ns)) : EvR (tSl (rSlL K) ta (tPart (tC (.int 1))) tNoPart) σ B (eI (ns.drop 1)) := fun H1 e Q q =>
  h H1 e _ fun v B1 H2 n rv => by
    obtain ⟨p, rfl, hp⟩ := rv.eI_inv
    refine ⟨1, rfl, p, _, rfl, sq_of (n.sub _ _ hp), fun p2 hp2 => ?_⟩
    rw [cut1]
    exact q _ _ _ (n.trans (New.one n.sub hp2)) (.lst upd_same (RA.ints _))
/-- over zip of two lists of ints, the second one no longer -/
theorem s_zip (e : Ex B H) (ha : EvR ta σ B (eI ns)) (hb : EvR tb σ B (eI ms)) (hl : ms.length ≤ ns.length) (Pv : Hp → Hp → Nat → L2.St → Hp → Prop) (h0 : ∀ B1 H1, New B H B1 H1 → Pv B1 H1 0 σ H1) (hx : ∀ B1 H1 i σ' H', Pv B1 H1 i σ' H' → Ex B1 H')
    (hs : ∀ B1 H1 i x y T σ' H', New B H B1 H1 → ns[i]? = some x → ms[i]? = some y → Pv B1 H1 i σ' H' → H' T = none → g (.ref T) σ' (upd H' T (.tup [.int x, .int y])) fun σ2 H2 => tu { D with nx := Pv B1 H1 (i + 1), ct := Pv B1 H1 (i + 1), bk := D.nx } σ2 H2)
    (hd : ∀ B1 H1 σ' H', New B H B1 H1 → Pv B1 H1 ms.length σ' H' → D.nx σ' H') : tFor (RZ.iZipA K (tCons ta (tCons tb tNil))) g tu D σ H := ha H e _ fun v B1 H1 n rv => (hb.mono n.ext) H1 n.sub _ fun w B2 H2 n2 rw => by
  obtain ⟨p, rfl, hp⟩ := rv.eI_inv
  obtain ⟨q, rfl, hq⟩ := rw.eI_inv
  have hp2 := n2.ext _ _ hp
  have n3 := n.trans n2
  refine ⟨p, q, _, _, rfl, .inl ⟨sq_of (n3.sub _ _ hp2), sq_of (n3.sub _ _ hq), fun i m σ H => m = ms.length - i ∧ i ≤ ms.length ∧ Pv B2 H2 i σ H, ⟨ms.length, rfl, Nat.zero_le _, h0 B2 H2 n3⟩, ?_⟩⟩
  rintro i m σ' H' ⟨rfl, hi, pv⟩
  have e' := hx _ _ _ _ _ pv
  have qx : SqL K H' p (ns.map V.int) := sq_of (e' _ _ hp2)
  have qy : SqL K H' q (ms.map V.int) := sq_of (e' _ _ hq)
  by_cases hlt : i < ms.length
  · have hlt2 : i < ns.length := by omega
    have hx1 : (ns.map V.int)[i]? = some (.int ns[i]) := by rw [List.getElem?_map, List.getElem?_eq_getElem hlt2]; rfl
    have hy1 : (ms.map V.int)[i]? = some (.int ms[i]) := by rw [List.getElem?_map, List.getElem?_eq_getElem hlt]; rfl
    refine .inr ⟨⟨_, _, _, _, qx, qy, hx1, hy1⟩, Pv B2 H2 (i + 1), fun σ' H' p' => ⟨ms.length - (i + 1), by omega, rfl, hlt, p'⟩, fun v H'' y => ?_⟩
    obtain ⟨T, x', y', rfl, hT, rfl, f1, f2⟩ := y
    have e1 := (f1 _ qx).symm.trans hx1
    have e2 := (f2 _ qy).symm.trans hy1
    cases e1; cases e2
    exact hs B2 H2 i _ _ T σ' H' n3 (List.getElem?_eq_getElem hlt2) (List.getElem?_eq_getElem hlt) pv hT
  · have : i = ms.length := by omega
    subst this
    exact .inl ⟨⟨_, _, qx, qy, Or.inr (by rw [List.length_map]; exact Nat.le_refl _)⟩, hd _ _ _ _ n3 pv⟩
theorem g_tup2 {k' : L2.St → Hp → Prop} {a b : V} {T : Addr} (h : k' ((σ.set i (some a)).set j (some b)) (upd H T (.tup [a, b]))) : gTup K 2 (gCons (gName i) (gCons (gName j) gNil)) (.ref T) σ (upd H T (.tup [a, b])) k' :=
  ⟨T, _, rfl, st_of upd_same, rfl, _, _, rfl, _, _, rfl, rfl, h⟩
/-- a dict of one's own -/
structure OwnK (H0 B H : Hp) (p : Addr) (kvs : List (Key × V)) : Prop where
  h0 : H0 p = none
  b : B p = none
  h : H p = some (.dK kvs)
theorem New.giveK {B0 H0 B H : Hp} {p : Addr} {kvs : List (Key × V)} (n : New B0 H0 B H) (o : OwnK H0 B H p kvs) : New B0 H0 (upd B p (.dK kvs)) H := by
  refine ⟨n.ext.trans (Ex.new o.b), fun q u h => ?_, n.heap, fun q h1 h2 => ?_⟩
  · by_cases hq : q = p
    · subst hq; rw [upd_same] at h; cases h; exact o.h
    · rw [upd_ne hq] at h; exact n.sub q u h
  · rw [upd_ne (fun z => by subst z; exact h2 o.h0)]; exact n.fresh q h1 h2
/-- q = {a: b} -/
theorem s_disp {q : Nat} {a c : Int} (e : Ex B H) (hk : EvR tk σ B (.int a)) (hv : EvR tv σ B (.int c)) (k : ∀ p B1 H1, New B H B1 H1 → OwnK H B1 H1 p [(.inl a, .int c)] → D.nx (σ.set q (some (.ref p))) H1) : tAsg (tDisp [(tk, tv)]) (gName q) D σ H := fun p hp => by
  have hb := fresh_back e hp
  have e1 : Ex B (upd H p (.dK [])) := e.trans (Ex.new hp)
  refine hk _ e1 _ fun v B1 H1 n1 r1 => (hv.mono n1.ext) H1 n1.sub _ fun w B2 H2 n2 r2 => ?_
  cases r1; cases r2
  have n3 := n1.trans n2
  have b2 := n3.fresh p hb (by rw [upd_same]; simp)
  have h2 := n3.heap p _ upd_same
  refine ⟨h2, [(.inl a, .int c)], rfl, by simp, k p B2 _ ⟨n3.ext, Evl.Ex.mut n3.sub b2, ?_, fun x z1 z2 => n3.fresh x z1 fun z3 => ?_⟩ ⟨hp, b2, upd_same⟩⟩
  · exact Evl.Ex.mut ((Ex.new hp).trans n3.heap) hp
  · by_cases hx : x = p
    · subst hx; exact z2 hp
    · rw [upd_ne hx] at z3; exact z2 z3
/-- q[e], q a dict that is known -/
theorem ev_dget {p : Addr} {kvs : List (Key × V)} {a c : Int} (ho : σ[n]? = some (some (.ref p))) (hp : B p = some (.dK kvs)) (h : EvR te σ B (.int a)) (hv : valV kvs (.inl a) = some (.int c)) : EvR (tDGet (tVar n) te) σ B (.int c) := fun H1 e Q q =>
  ⟨_, ho, h H1 e _ fun v B2 H2 n2 r => by
    cases r
    exact ⟨p, _, rfl, by rw [← hv]; exact DGet.k (k := .inl a) (n2.sub _ _ (n2.ext _ _ hp)), q _ B2 H2 n2 (.int c)⟩⟩
/-- q[e] = f -/
theorem s_dput {p : Addr} {kvs : List (Key × V)} {a c : Int} {H0 : Hp} (e : Ex B H) (o : OwnK H0 B H p kvs) (ho : σ[n]? = some (some (.ref p))) (hv : EvR tv σ (upd B p (.dK kvs)) (.int c)) (hk : ∀ B1, Ex B B1 → EvR tk σ B1 (.int a)) (hl : kvs.length ≤ 1000)
    (k : ∀ H1, Ex B H1 → Ex H0 H → Ex H0 H1 → OwnK H0 B H1 p (putK kvs (.inl a) (.int c)) → D.nx σ H1) (h0 : Ex H0 H) : sDPut (tVar n) tk tv D σ H := by
  have eB : Ex (upd B p (.dK kvs)) H := fun q u h => by
    by_cases hq : q = p
    · subst hq; rw [upd_same] at h; cases h; exact o.h
    · rw [upd_ne hq] at h; exact e q u h
  have eb0 : Ex B (upd B p (.dK kvs)) := Ex.new o.b
  refine hv H eB _ fun v B1 H1 n1 r1 => ⟨_, ho, (hk B1 (eb0.trans n1.ext)) H1 n1.sub _ fun w B2 H2 n2 r2 => ?_⟩
  cases r1; cases r2
  have n3 := n1.trans n2
  have h2 := n3.heap _ _ o.h
  refine ⟨p, _, rfl, DPut.k (k := .inl a) h2 (sz_lt (by omega)), k _ (Evl.Ex.mut (e.trans n3.heap) o.b) h0 (Evl.Ex.mut (h0.trans n3.heap) o.h0) ⟨o.h0, o.b, upd_same⟩⟩
end
end U
namespace U
open PySem L2
section
variable {K : PySem.W.Frag}
theorem k_sortedI {X : Cx} (h : X.K = K) : CallR X (.builtin "sorted") (rSortedI K) := h ▸ cr_sortedI
theorem k_zip {X : Cx} {e e2 : Expr} {ta : TA} {p pos tpos : Pos} {elts : List Expr} {kk : Nat} (h : X.K = K) (hg : Gl X "zip") (hm : X.mg "zip" = none) (ha : PA X [e, e2] ta)
    (hs : starEach [e, e2] X.env = (false, eval e X.env) :: starEach [e2] X.env := by rfl) (hpl : (backTo pos (starEach [e2] X.env)).any (·.1) = false := by rfl) :
    PI X (.Tuple elts kk tpos) (.Call (.Name "zip" p) [e, e2] [] pos) (RZ.iZipA K ta) := h ▸ RZ.pi_zipA hg hm ha hs hpl
theorem k_index {X : Cx} (h : X.K = K) : MtR X "list.index" (rIndex K) := h ▸ mt_index
theorem unit1 {a b : Nat} (h : a + 64 < b) : a + 1 < b := Nat.lt_of_le_of_lt (Nat.add_le_add_left (by decide) _) h
end
end U

namespace U
open PySem L2
open Evl (Ex fresh_back sz_of sz_lt sq_of st_of rLenS rListS)
section
variable {K : PySem.W.Frag} {σ : L2.St} {B B' H : Hp} {te : TE} {tl : TA} {D : Ends} {i j n : Nat} {ns ms : List Int} {tu : TS}
theorem s_appI {H0 : Hp} {p : Addr} {a : Int} (e : Ex B H) (o : Own H0 B H p (ns.map V.int)) (hv : σ[n]? = some (some (.ref p))) (h : EvR te σ (upd B p (.lst (ns.map V.int))) (.int a)) (hz : ns.length < 100000) (h0 : Ex H0 H)
    (k : ∀ H1, Ex B H1 → Ex H0 H1 → Own H0 B H1 p ((ns ++ [a]).map V.int) → D.nx σ H1) : tDrop (tBM K "list" rAppend (tVar n) (tCons te tNil)) D σ H :=
  ⟨_, hv, .inl ⟨rfl, _, .inl (.inl o.h)⟩, h H (o.ex e) _ fun v B1 H1 nw rv => by
    cases rv
    refine ⟨p, _, .int a, rfl, rfl, nw.heap _ _ o.h, sz_lt (by rw [List.length_map]; exact hz), k _ (Evl.Ex.mut (e.trans nw.heap) o.b) (Evl.Ex.mut (h0.trans nw.heap) o.h0) ⟨o.h0, o.b, ?_⟩⟩
    rw [upd_same, List.map_append]; rfl⟩
theorem ev_lix {a : Int} {v : V} (hv : σ[n]? = some (some v)) (r : R B v (eI ns)) (h : EvR te σ B (.int a)) (hj : ns[j]? = some a) (hm : ∀ m, m < j → ns[m]? ≠ some a) : EvR (tBM K "list" (rIndex K) (tVar n) (tCons te tNil)) σ B (.int (j : Nat)) := fun H1 e Q q => by
  obtain ⟨p, rfl, hp⟩ := r.eI_inv
  refine ⟨_, hv, .inl ⟨rfl, _, .inl (.inl (e _ _ hp))⟩, h H1 e _ fun v B2 H2 n2 r2 => ?_⟩
  cases r2
  refine ⟨p, _, .int a, j, .int a, rfl, rfl, sq_of (n2.heap _ _ (e _ _ hp)), rfl, by simp [flatV], by rw [List.getElem?_map, hj]; rfl, by simp [eqV], fun m z hmj hz => ?_, q _ B2 H2 n2 (.int _)⟩
  rw [List.getElem?_map] at hz
  cases hx : ns[m]? with
  | none => rw [hx] at hz; cases hz
  | some y =>
    rw [hx] at hz; cases hz
    have : y ≠ a := fun z => hm m hmj (z ▸ hx)
    simp [eqV, this]
/-- over range(1, n) -/
theorem s_for1 {m : Nat} (e : Ex B H) (h : EvRA tl σ B [.int 1, .int (m : Int)]) (hn : m ≤ 1000000) (Pv : Nat → L2.St → Hp → Prop) (h0 : ∀ H1, Up B H H1 → Pv 0 σ H1)
    (hs : ∀ (i : Nat) σ' H', i + 1 < m → Pv i σ' H' → tu { D with nx := Pv (i + 1), ct := Pv (i + 1), bk := D.nx } (σ'.set j (some (.int ((i + 1 : Nat) : Int)))) H') (hd : ∀ σ' H', Pv (m - 1) σ' H' → D.nx σ' H') :
    tFor (iRng2 tl) (gName j) tu D σ H := h H e _ fun vs B1 H1 nw ra => by
  cases ra with | cons r1 ra =>
  cases ra with | cons r2 ra =>
  cases r1; cases r2; cases ra
  have em : ((m : Int) - 1).toNat = m - 1 := by omega
  refine ⟨1, (m : Int), rfl, ⟨by omega, by omega, by omega, by omega⟩, ?_⟩
  rw [em]
  refine for_range (lo := 1) (n := m - 1) Pv (h0 H1 ⟨e, e.trans nw.heap, nw.heap⟩) (fun i σ' H' hi q => ?_) hd
  have e0 : (1 : Int) + (i : Int) = ((i + 1 : Nat) : Int) := by omega
  rw [e0]
  exact hs i σ' H' (by omega) q
end
section
theorem k_bm {X : Cx} {K : PySem.W.Frag} (hK : X.K = K) {o e : Expr} {es : List Expr} {to : TE} {t : TA} {name : Str} {apos cpos : Pos} {T id : String} {r : V → List V → Hp → VK → Prop} (pa : PlainAttrs T) (slot : Slot T name id) (hty : typeOf (.builtin id) = pure (.type "method_descriptor")) (hm : MtR X id r) (ho : PE X o to) (ha : PA X (e :: es) t)
    (hbase : attributeBase o name X.env (eval o X.env) = eval o X.env := by rfl)
    (hfew : ((backTo cpos (starEach (e :: es) X.env)).all (fun x => !x.1) && (backToKw cpos (keywordEach [] X.env)).all (fun x => x.1.isSome)
      && decide ((e :: es).length + ([] : List Keyword).length + (if ([] : List Keyword).isEmpty then 0 else 1) < 30)) = true := by rfl)
    (hline : (apos.endLine == cpos.line) = true := by rfl) (hs : starEach (e :: es) X.env = (false, eval e X.env) :: starEach es X.env := by rfl) (hplain : (backTo cpos (starEach es X.env)).any (·.1) = false := by rfl) :
    PE X (.Call (.Attribute o name apos) (e :: es) [] cpos) (tBM K T r to t) := hK ▸ pe_bm pa slot hty hm ho ha hbase hfew hline hs hplain
end
end U

namespace U
open PySem L2
open Evl (Ex fresh_back sz_of sz_lt sq_of st_of rLenS rListS)
/-- J goes through the data ds, which stand in B1 -/
def Loop (J : It) (B1 : Hp) (ds : List Dt) : Prop := ∀ (S : V → Hp → (Hp → Prop) → Prop) (Fin : Hp → Prop) (Pv : Nat → Hp → Prop) (H4 : Hp), Ex B1 H4 → Pv 0 H4 →
  (∀ i d x H', Ex B1 H' → ds[i]? = some d → R B1 x d → Pv i H' → S x H' fun H2 => Ex B1 H2 ∧ Pv (i + 1) H2) → (∀ H', Ex B1 H' → Pv ds.length H' → Fin H') →
  ∃ W : Nat → Nat → Hp → Prop, (∃ m, W 0 m H4) ∧ ∀ j k H, W j k H → (J.stop j H ∧ Fin H) ∨ (J.go j H ∧ ∃ Nx : Hp → Prop, (∀ H', Nx H' → ∃ k', k' < k ∧ W (j + 1) k' H') ∧ ∀ x H', J.yld j H x H' → S x H' Nx)
def Goes (wi : TI) (σ : L2.St) (B : Hp) (ds : List Dt) : Prop := ∀ (H : Hp), Ex B H → ∀ Z : It → Hp → Prop, (∀ J B1 H1, New B H B1 H1 → Loop J B1 ds → Z J H1) → wi σ H Z
section
variable {K : PySem.W.Frag} {σ : L2.St} {B B' H : Hp} {ta te : TE} {tl : TA} {tt1 : TT} {wi wi1 : TI} {d : Dt} {ds es : List Dt} {j j1 : Nat}
theorem loop_of {J : It} {B1 : Hp} {us : List V} (ra : RA B1 us ds) (hstop : ∀ H', Ex B1 H' → J.stop us.length H') (hgo : ∀ H' i, Ex B1 H' → i < us.length → J.go i H') (hy : ∀ i H' x H2, i < us.length → Ex B1 H' → J.yld i H' x H2 → H2 = H' ∧ us[i]? = some x) : Loop J B1 ds := fun S Fin Pv H4 e4 h0 hs hd => by
  have hl := ra.len
  refine ⟨fun i m H' => m = us.length - i ∧ i ≤ us.length ∧ Ex B1 H' ∧ Pv i H', ⟨us.length, rfl, Nat.zero_le _, e4, h0⟩, ?_⟩
  rintro i m H' ⟨rfl, hi, e1, pv⟩
  by_cases hlt : i < us.length
  · refine .inr ⟨hgo H' i e1 hlt, fun H2 => Ex B1 H2 ∧ Pv (i + 1) H2, fun H2 z => ⟨us.length - (i + 1), by omega, rfl, hlt, z⟩, fun x H2 y => ?_⟩
    obtain ⟨ee, y2⟩ := hy i _ _ _ hlt e1 y
    subst ee
    obtain ⟨dd, hd', rd⟩ := ra.getV y2
    exact hs i dd x _ e1 hd' rd pv
  · have : i = us.length := by omega
    subst this
    exact .inl ⟨hstop _ e1, hd _ e1 (by rw [← hl]; exact pv)⟩
theorem goes_seq (h : EvR ta σ B d) (it : Items d ds) : Goes (iSeq K ta) σ B ds := fun H e Z z => h H e _ fun v B1 H1 n rv => by
  cases it with
  | lst =>
    obtain ⟨p, us, rfl, hp, ra⟩ := rv.lst_inv
    have q : ∀ H', Ex B1 H' → SqL K H' p us := fun H' e => sq_of (e _ _ hp)
    refine ⟨p, rfl, .inl ⟨⟨us, q _ n.sub⟩, z _ B1 H1 n (loop_of ra (fun H' e => ⟨us, q _ e, Nat.le_refl _⟩) (fun H' i e hi => ⟨us, us[i], q _ e, List.getElem?_eq_getElem hi⟩) fun i H' x H2 _ e y => ⟨y.1, y.2 us (q _ e)⟩)⟩⟩
  | tup =>
    obtain ⟨p, us, rfl, hp, ra⟩ := rv.tup_inv
    have q : ∀ H', Ex B1 H' → SqT K H' p us := fun H' e => st_of (e _ _ hp)
    refine ⟨p, rfl, .inr ⟨⟨us, q _ n.sub⟩, z _ B1 H1 n (loop_of ra (fun H' e => ⟨us, q _ e, Nat.le_refl _⟩) (fun H' i e hi => ⟨us, us[i], q _ e, List.getElem?_eq_getElem hi⟩) fun i H' x H2 _ e y => ⟨y.1, y.2 us (q _ e)⟩)⟩⟩
theorem ra_rng : ∀ (l : List Nat), RA B (l.map fun i => V.int (i : Nat)) (l.map fun i => Dt.int (i : Nat))
  | [] => .nil
  | _ :: l => .cons (.int _) (ra_rng l)
theorem goes_rng {n : Int} (h : EvRA tl σ B [.int n]) (hn : 0 ≤ n ∧ n < 1000000) : Goes (iRng1 tl) σ B ((List.range n.toNat).map fun i => Dt.int (i : Nat)) := fun H e Z z => h H e _ fun v B1 H1 nw ra => by
  cases ra with | cons r1 ra =>
  cases r1; cases ra
  have hl : ((List.range n.toNat).map fun i => V.int (i : Nat)).length = n.toNat := by rw [List.length_map, List.length_range]
  refine ⟨n, rfl, by omega, by omega, z _ B1 H1 nw (loop_of (us := (List.range n.toNat).map fun i => V.int (i : Nat)) (ra_rng _) (fun H' e => ?_) (fun H' i e hi => ?_) fun i H' x H2 hi e y => ?_)⟩
  · exact Nat.le_of_eq hl.symm
  · rw [hl] at hi; exact hi
  · obtain ⟨y1, y2⟩ := y
    rw [hl] at hi
    refine ⟨y1, ?_⟩
    rw [y2, List.getElem?_map, List.getElem?_range hi, Int.zero_add]
    rfl
/-- a comprehension with two fors -/
theorem el_lc2 {α β : Type} {l : List α} {enc : α → Dt} {ms : α → List β} {enc1 : β → Dt} {c : α → β → Bool} {f : α → β → Dt} {vs vs1 : List Nat} (ho : Goes wi σ B (l.map enc)) (hz : (l.flatMap fun a => ((ms a).filter (c a)).map (f a)).length < 100000)
    (hw : ∀ x, wipe ((wipe σ vs).set j (some x)) vs = wipe σ vs) (hw1 : ∀ x y, wipe ((wipe ((wipe σ vs).set j (some x)) vs1).set j1 (some y)) vs1 = wipe ((wipe σ vs).set j (some x)) vs1)
    (hi : ∀ a v B1, a ∈ l → Ex B B1 → R B1 v (enc a) → Goes wi1 ((wipe σ vs).set j (some v)) B1 ((ms a).map enc1))
    (ht : ∀ a v b u B1, a ∈ l → b ∈ ms a → Ex B B1 → R B1 v (enc a) → R B1 u (enc1 b) → EvC tt1 ((wipe ((wipe σ vs).set j (some v)) vs1).set j1 (some u)) B1 (c a b))
    (he : ∀ a v b u B1, a ∈ l → b ∈ ms a → Ex B B1 → R B1 v (enc a) → R B1 u (enc1 b) → c a b = true → EvR te ((wipe ((wipe σ vs).set j (some v)) vs1).set j1 (some u)) B1 (f a b)) :
    EvL (tLc2 wi (gName j) tYes wi1 (gName j1) tt1 te vs vs1) σ B (l.flatMap fun a => ((ms a).filter (c a)).map (f a)) := fun H0 e0 Q k => ho H0 e0 _ fun J B1 H1 n lp D hD => by
  have acc0 : ∀ i, ((l.take i).flatMap fun a => ((ms a).filter (c a)).map (f a)).length ≤ (l.flatMap fun a => ((ms a).filter (c a)).map (f a)).length := fun i => by
    conv => rhs; rw [← List.take_append_drop i l, List.flatMap_append, List.length_append]
    omega
  refine lp (fun x H' N => gName j x (wipe σ vs) H' fun σ2 H2 => wipe σ2 vs = wipe σ vs ∧ tYes σ2 H2 fun b H3 => if b = true then _ else N H3) _ (fun i H' => ∃ B' acc, New B1 H1 B' H' ∧ Own H1 B' H' D acc ∧ RA B' acc ((l.take i).flatMap fun a => ((ms a).filter (c a)).map (f a))) (upd H1 D (.lst [])) (n.sub.trans (Evl.Ex.new hD)) ?_ ?_ ?_
  · exact ⟨B1, [], ⟨Evl.Ex.refl _, Evl.Ex.mut n.sub (fresh_back n.sub hD), Evl.Ex.new hD, fun _ h _ => h⟩, ⟨hD, fresh_back n.sub hD, upd_same⟩, .nil⟩
  · rintro i d x H' e1 hd rx ⟨B', acc, n', o, ra⟩
    rw [List.getElem?_map] at hd
    cases hq : l[i]? with
    | none => rw [hq] at hd; cases hd
    | some a =>
    rw [hq] at hd; cases hd
    have hm := List.mem_of_getElem? hq
    refine ⟨hw x, ?_⟩
    have bD : B1 D = none := fresh_back n.sub hD
    refine (hi a x B' hm (n.ext.trans n'.ext) (rx.mono n'.ext)) H' n'.sub _ fun J1 B2 H2 n2 lp1 => ?_
    have b2D : B2 D = none := n2.fresh D o.b (by rw [o.h]; simp)
    refine lp1 (fun y H'' N => gName j1 y (wipe ((wipe σ vs).set j (some x)) vs1) H'' fun σ3 H5 => wipe σ3 vs1 = wipe ((wipe σ vs).set j (some x)) vs1 ∧ tt1 σ3 H5 fun b H6 => if b = true then te σ3 H6 fun y H7 => ∃ acc, H7 D = some (.lst acc) ∧ acc.length < sizeLine ∧ N (upd H7 D (.lst (acc ++ [y]))) else N H6) _
      (fun i2 H'' => ∃ B3 acc, Ex B2 B3 ∧ New B1 H1 B3 H'' ∧ Own H1 B3 H'' D acc ∧ RA B3 acc (((l.take i).flatMap fun a => ((ms a).filter (c a)).map (f a)) ++ (((ms a).take i2).filter (c a)).map (f a))) H2 n2.sub ?_ ?_ ?_
    · exact ⟨B2, acc, Evl.Ex.refl _, n'.trans n2, o.step n2, by rw [List.take_zero]; show RA B2 acc (_ ++ []); rw [List.append_nil]; exact ra.mono n2.ext⟩
    · rintro i2 d2 u H'' e2 hd2 ru ⟨B3, acc3, e23, n3, o3, ra3⟩
      rw [List.getElem?_map] at hd2
      cases hq2 : (ms a)[i2]? with
      | none => rw [hq2] at hd2; cases hd2
      | some b =>
      rw [hq2] at hd2; cases hd2
      have hmb := List.mem_of_getElem? hq2
      refine ⟨hw1 x u, ?_⟩
      refine ht a x b u B3 hm hmb (n.ext.trans n3.ext) (rx.mono n3.ext) (ru.mono e23) H'' n3.sub _ fun H6 e6 => ?_
      have n36 : New B3 H'' B3 H6 := New.grow (n3.sub.trans e6) e6 n3.sub
      have hs := outs_step (c := c a) (f := f a) hq2
      have len : (((l.take i).flatMap fun a => ((ms a).filter (c a)).map (f a)) ++ (((ms a).take i2).filter (c a)).map (f a)).length < 100000 := by
        have h1 := acc0 (i + 1)
        rw [List.take_add_one, hq, List.flatMap_append, List.length_append] at h1
        have h2 := ((List.take_sublist i2 (ms a)).filter (c a)).length_le
        have h3 : ((some a).toList.flatMap fun a => ((ms a).filter (c a)).map (f a)).length = ((ms a).filter (c a)).length := by simp
        rw [h3] at h1
        rw [List.length_append, List.length_map]
        omega
      cases hc : c a b with
      | true =>
        rw [hc, if_pos rfl] at hs
        show te _ H6 _
        refine he a x b u B3 hm hmb (n.ext.trans n3.ext) (rx.mono n3.ext) (ru.mono e23) hc H6 n36.sub _ fun w B4 H7 n4 rw' => ?_
        have o4 := (o3.step n36).step n4
        refine ⟨acc3, o4.h, sz_lt (by rw [ra3.len]; exact len), Evl.Ex.mut (e23.trans (n4.ext.trans n4.sub)) b2D, B4, acc3 ++ [w], e23.trans n4.ext, (((n3.trans n36).trans n4).put o4), o4.put, ?_⟩
        rw [hs, ← List.append_assoc]
        exact (ra3.mono n4.ext).append (RA.one rw')
      | false =>
        rw [hc, if_neg (by simp)] at hs
        exact ⟨e23.trans n36.sub, B3, acc3, e23, n3.trans n36, o3.step n36, by rw [hs]; exact ra3⟩
    · rintro H'' e2 ⟨B3, acc3, e23, n3, o3, ra3⟩
      refine ⟨n3.ext.trans n3.sub, B3, acc3, n3, o3, ?_⟩
      rw [List.length_map, List.take_length] at ra3
      rw [List.take_add_one, hq, List.flatMap_append]
      have h3 : ((some a).toList.flatMap fun a => ((ms a).filter (c a)).map (f a)) = ((ms a).filter (c a)).map (f a) := by simp
      rw [h3]
      exact ra3
  · rintro H' e1 ⟨B', acc, n', o, ra⟩
    rw [List.length_map, List.take_length] at ra
    exact k D acc B' H' (n.trans n') ⟨fresh_back n.heap o.h0, o.b, o.h⟩ ra
end
end U

namespace U
open PySem L2
open Evl (Ex fresh_back sz_of sz_lt sq_of st_of rLenS rListS)
section
variable {K : PySem.W.Frag} {σ : L2.St} {B B' H : Hp} {te : TE} {tl : TA} {ds es : List Dt} {ns : List Int}
theorem ea_star (h : EvR te σ B (.lst ds)) (hr : EvRA tl σ B es) : EvRA (StX.tStar K te tl) σ B (ds ++ es) := fun H1 e Q q => h H1 e _ fun v B2 H2 n rv => by
  obtain ⟨p, us, rfl, hp, ra⟩ := rv.lst_inv
  refine ⟨p, us, rfl, .inr (sq_of (n.sub _ _ hp)), (hr.mono n.ext) H2 n.sub _ fun ws B3 H3 n3 rb => q _ B3 H3 (n.trans n3) ((ra.mono n3.ext).append rb)⟩
theorem ea_starT (h : EvR te σ B (.tup ds)) (hr : EvRA tl σ B es) : EvRA (StX.tStar K te tl) σ B (ds ++ es) := fun H1 e Q q => h H1 e _ fun v B2 H2 n rv => by
  obtain ⟨p, us, rfl, hp, ra⟩ := rv.tup_inv
  refine ⟨p, us, rfl, .inl (st_of (n.sub _ _ hp)), (hr.mono n.ext) H2 n.sub _ fun ws B3 H3 n3 rb => q _ B3 H3 (n.trans n3) ((ra.mono n3.ext).append rb)⟩
theorem rl_sum : RL (rSum K) [eI ns] (.int ns.sum) := fun B H1 vs e ra Q q => by
  cases ra with | cons r1 r2 =>
  cases r2
  obtain ⟨p, rfl, hp⟩ := r1.eI_inv
  exact ⟨p, ns, rfl, sq_of (e _ _ hp), q _ B H1 (New.refl e) (.int _)⟩
theorem k_star {X : Cx} {e : Expr} {es : List Expr} {p : Pos} {te : TE} {t : TA} (h : X.K = K) (he : PE X e te) (hr : PA X es t) (hs : starEach (.Starred e p :: es) X.env = (true, eval e X.env) :: starEach es X.env := by rfl) : PA X (.Starred e p :: es) (StX.tStar K te t) := h ▸ StX.pa_star he hr hs
theorem k_sum {X : Cx} (h : X.K = K) (hc : X.calm = true) : CallR X (.builtin "sum") (rSum K) := h ▸ cr_sum hc
end
section
variable {B : Hp} {d : Dt}
def isN : Dt → Bool
  | .non => true
  | _ => false
theorem R.isN_eq {v : V} (r : R B v d) : decide (v = .non) = isN d := by
  cases r <;> simp [isN]
theorem rv_isN : RV (fun x y H Q => y = .non ∧ Q (.bl (decide (x = .non))) H) d .non (.bl (isN d)) := fun B H1 v w e r1 r2 Q q => by
  cases r2
  refine ⟨rfl, ?_⟩
  rw [r1.isN_eq]
  exact q _ B H1 (New.refl e) (.bl _)
theorem rv_notN : RV (fun x y H Q => y = .non ∧ Q (.bl (!decide (x = .non))) H) d .non (.bl (!isN d)) := fun B H1 v w e r1 r2 Q q => by
  cases r2
  refine ⟨rfl, ?_⟩
  rw [r1.isN_eq]
  exact q _ B H1 (New.refl e) (.bl _)
end
section
variable {K : PySem.W.Frag} {σ : L2.St} {B : Hp} {te : TE} {ns : List Int}
theorem ev_lenSet (h : EvR te σ B (eI ns)) (hn : ns.Nodup) (hl : ns.length ≤ 4000) : EvR (RZ.tLenSetI K te) σ B (.int (ns.length : Nat)) := fun H1 e Q q => h H1 e _ fun v B2 H2 n r => by
  obtain ⟨p, rfl, hp⟩ := r.eI_inv
  exact ⟨p, ns, rfl, sq_of (n.sub _ _ hp), hn, hl, q _ B2 H2 n (.int _)⟩
theorem k_lenSet {X : Cx} {a : Expr} {ta : TE} {p p2 q pos : Pos} (h : X.K = K) (hg : Gl X "len") (hm : X.mg "len" = none) (hg2 : Gl X "set") (hm2 : X.mg "set" = none) (ha : PE X a ta) (hc : X.calm = true := by rfl)
    (na : starEach [a] X.env = (false, eval a X.env) :: starEach [] X.env := by rfl) : PE X (.Call (.Name "len" p) [.Call (.Name "set" p2) [a] [] q] [] pos) (RZ.tLenSetI K ta) := h ▸ RZ.pe_lenSetI hg hm hg2 hm2 ha hc na
end
end U

namespace U
open PySem L2
open Evl (Ex fresh_back sz_of sz_lt sq_of st_of rLenS rListS)
def rIns : V → List V → Hp → VK → Prop := fun x vs H Q => ∃ (l : Addr) (xs : List V) (i : Int) (y : V), x = .ref l ∧ vs = [.int i, y] ∧ H l = some (.lst xs) ∧ xs.length < sizeLine ∧ 0 ≤ i ∧ i < 2 ^ 63 ∧ Q .non (upd H l (.lst (xs.take i.toNat ++ [y] ++ xs.drop i.toNat)))
theorem mt_ins {X : Cx} : MtR X "list.insert" rIns := mt_insert
section
variable {K : PySem.W.Frag} {σ : L2.St} {B B' H : Hp} {ta tb te : TE} {tl tl2 : TA} {d : Dt} {ds : List Dt} {D : Ends} {i j n t : Nat} {ns ms : List Int}
theorem rv_eqB {a b : Bool} : RV rEq (.bl a) (.bl b) (.bl (decide (a = b))) := fun B H1 v w e r1 r2 Q q => by
  cases r1; cases r2
  exact ⟨rfl, q _ B H1 (New.refl e) (by have : decide (V.bl a = V.bl b) = decide (a = b) := by simp
                                        rw [this]; exact .bl _)⟩
theorem rv_neB {a b : Bool} : RV rNe (.bl a) (.bl b) (.bl (!decide (a = b))) := fun B H1 v w e r1 r2 Q q => by
  cases r1; cases r2
  exact ⟨rfl, q _ B H1 (New.refl e) (by have : decide (V.bl a = V.bl b) = decide (a = b) := by simp
                                        rw [this]; exact .bl _)⟩
theorem cutTo (vs : List V) (m : Int) (h : 0 ≤ m) : cutV vs none (some m) = vs.take m.toNat := by
  obtain ⟨k, rfl⟩ := Int.eq_ofNat_of_zero_le h
  have e1 : HT.sIx vs.length 0 none = 0 := HT.sIx_none _ _
  have e2 : HT.sIx vs.length vs.length (some (k : Int)) = min k vs.length := HT.sIx_nat _ _ k
  unfold cutV
  rw [e1]
  show ((vs.drop 0).take (HT.sIx vs.length vs.length (some (k : Int)) - 0)) = _
  rw [e2, List.drop_zero, Nat.sub_zero, Int.toNat_natCast]
  by_cases h : k ≤ vs.length
  · rw [Nat.min_eq_left h]
  · rw [Nat.min_eq_right (by omega), List.take_of_length_le (Nat.le_refl _), List.take_of_length_le (by omega)]
theorem RA.take {B : Hp} : ∀ {vs : List V} {ds : List Dt} (k : Nat), RA B vs ds → RA B (vs.take k) (ds.take k)
  | _, _, 0, _ => by rw [List.take_zero, List.take_zero]; exact .nil
  | _, _, _ + 1, .nil => .nil
  | _, _, k + 1, .cons a b => .cons a (RA.take k b)
theorem RA.drop {B : Hp} : ∀ {vs : List V} {ds : List Dt} (k : Nat), RA B vs ds → RA B (vs.drop k) (ds.drop k)
  | _, _, 0, h => h
  | _, _, _ + 1, .nil => .nil
  | _, _, k + 1, .cons a b => RA.drop k b
theorem ev_slTo {m : Int} (h : EvR ta σ B (.lst ds)) (hi : EvR tb σ B (.int m)) (h0 : 0 ≤ m) : EvR (tSl (rSlL K) ta tNoPart (tPart tb)) σ B (.lst (ds.take m.toNat)) := fun H1 e Q q =>
  h H1 e _ fun v B1 H2 n rv => (hi.mono n.ext) H2 n.sub _ fun w B2 H3 n2 rw => by
    obtain ⟨p, vs, rfl, hp, ra⟩ := rv.lst_inv
    have hp2 := n2.ext _ _ hp
    refine ⟨m, rw.int_inv, p, vs, rfl, sq_of (n2.sub _ _ hp2), fun p2 hp3 => ?_⟩
    rw [cutTo vs m h0]
    exact q _ (upd B2 p2 (.lst (vs.take m.toNat))) _ ((n.trans n2).trans (New.one n2.sub hp3)) (.lst upd_same (((ra.mono n2.ext).take _).mono (Evl.Ex.new (fresh_back n2.sub hp3))))
theorem el_slTo {m : Int} {es : List Dt} (h : EvR ta σ B (.lst ds)) (hi : EvR tb σ B (.int m)) (h0 : 0 ≤ m) (he : ds.take m.toNat = es) : EvL (tSl (rSlL K) ta tNoPart (tPart tb)) σ B es := fun H1 e Q q =>
  h H1 e _ fun v B1 H2 n rv => (hi.mono n.ext) H2 n.sub _ fun w B2 H3 n2 rw => by
    obtain ⟨p, vs, rfl, hp, ra⟩ := rv.lst_inv
    have hp2 := n2.ext _ _ hp
    refine ⟨m, rw.int_inv, p, vs, rfl, sq_of (n2.sub _ _ hp2), fun p2 hp3 => ?_⟩
    rw [cutTo vs m h0]
    have N := n.trans n2
    refine q p2 (vs.take m.toNat) B2 _ ⟨N.ext, Evl.Ex.mut N.sub (fresh_back N.sub hp3), Evl.Ex.mut N.heap (fresh_back N.heap hp3), N.fresh⟩ ⟨fresh_back N.heap hp3, fresh_back N.sub hp3, upd_same⟩ ?_
    rw [← he]
    exact (ra.mono n2.ext).take _
theorem el_lcR1' {n : Int} {f : Nat → Dt} {es : List Dt} {vs : List Nat} (h : EvRA tl σ B [.int n]) (hz : 0 ≤ n ∧ n < 100000) (hw : ∀ x, wipe ((wipe σ vs).set j (some x)) vs = wipe σ vs)
    (he : ∀ (q : Nat) B1, (q : Int) < n → Ex B B1 → EvR ta ((wipe σ vs).set j (some (.int (q : Int)))) B1 (f q)) (hs : (List.range n.toNat).map f = es) : EvL (tLc (iRng1 tl) (gName j) tYes ta vs) σ B es := hs ▸ el_lcR1 h hz hw he
theorem rl_intB {b : Bool} : RL rInt1 [.bl b] (.int (if b = true then 1 else 0)) := fun B H1 vs e ra Q q => by
  cases ra with | cons r1 r2 =>
  cases r1; cases r2
  exact .inr ⟨b, rfl, q _ B H1 (New.refl e) (.int _)⟩
theorem map_erase (k : Nat) : ∀ (l : List Int), (l.map V.int).eraseIdx k = (l.eraseIdx k).map V.int := by
  intro l
  induction l generalizing k with
  | nil => rfl
  | cons x l ih =>
    cases k with
    | zero => rfl
    | succ k => rw [List.map_cons, List.eraseIdx_cons_succ, ih, List.eraseIdx_cons_succ, List.map_cons]
/-- x = [p.pop(e) for j in range(m)], p a list of ints of one's own -/
theorem s_pops {B0 H0 : Hp} {p : Addr} {m : Nat} {nn : Nat} {vs : List Nat} {fP : Nat → List Int} {ix : Nat → Nat} (n0 : New B0 H0 B H) (o : Own H0 B H p ((fP 0).map V.int)) (h : EvRA tl σ B [.int (m : Int)]) (hm : m < 100000)
    (hn : ∀ k : Nat, ((wipe σ vs).set j (some (.int (k : Int))))[nn]? = some (some (.ref p))) (hw : ∀ x, wipe ((wipe σ vs).set j (some x)) vs = wipe σ vs)
    (ha : ∀ (k : Nat) B1, k < m → Ex B B1 → R B1 (.ref p) (eI (fP k)) → EvRA tl2 ((wipe σ vs).set j (some (.int (k : Int)))) B1 [.int (ix k : Nat)])
    (hix : ∀ k, k < m → ix k < (fP k).length ∧ ix k < 1000 ∧ fP (k + 1) = (fP k).eraseIdx (ix k))
    (go : ∀ q B1 H1, New B0 H0 B1 H1 → Ex B B1 → R B1 (.ref q) (eI ((List.range m).map fun k => (fP k).getD (ix k) 0)) → D.nx (σ.set t (some (.ref q))) H1) :
    tAsg (tLc (iRng1 tl) (gName j) tYes (tBM K "list" rPopAt (tVar nn) tl2) vs) (gName t) D σ H := h H n0.sub _ fun us B1 H1 n1 rv => by
  cases rv with | cons r1 rv =>
  cases r1; cases rv
  refine ⟨(m : Int), rfl, by omega, by omega, fun q hq => ?_⟩
  have o1 := o.step n1
  have hpq : p ≠ q := fun z => by subst z; rw [o1.h] at hq; cases hq
  have N1 := n0.trans n1
  refine lc_range (lo := 0) (n := m) (fun i H' => ∃ B', New B0 H0 B' H' ∧ Ex B1 B' ∧ H' p = some (.lst ((fP i).map V.int)) ∧ H0 p = none ∧ B' p = none ∧ H0 q = none ∧ B' q = none ∧ H' q = some (.lst (((List.range i).map fun k => (fP k).getD (ix k) 0).map V.int))) ?_ (fun i H' hi z => ?_) (fun H' z => ?_)
  · have hq0 := fresh_back N1.heap hq
    have hqb := fresh_back N1.sub hq
    exact ⟨B1, ⟨N1.ext, Evl.Ex.mut N1.sub hqb, Evl.Ex.mut N1.heap hq0, N1.fresh⟩, Evl.Ex.refl _, by rw [upd_ne hpq]; exact o1.h, o.h0, o1.b, hq0, hqb, upd_same⟩
  · obtain ⟨B', N', e', hp, hp0, hpb, hq0, hqb, hqv⟩ := z
    rw [Int.zero_add]
    obtain ⟨x1, x2, x3⟩ := hix i hi
    refine ⟨hw _, ?_⟩
    have op : Own H0 B' H' p ((fP i).map V.int) := ⟨hp0, hpb, hp⟩
    refine ⟨_, hn i, .inl ⟨rfl, _, .inl (.inl hp)⟩, (ha i _ hi ((n1.ext.trans e').trans (Evl.Ex.new hpb)) (.lst upd_same (RA.ints _))) H' (op.ex N'.sub) _ fun ws B3 H3 n3 rw => ?_⟩
    cases rw with | cons r1 rw =>
    cases r1; cases rw
    have hp3 := n3.heap _ _ hp
    have hq3 := n3.heap _ _ hqv
    refine ⟨p, _, (ix i : Nat), ix i, .int ((fP i).getD (ix i) 0), rfl, rfl, hp3, by omega, by omega, ?_, ?_, ((List.range i).map fun k => (fP k).getD (ix k) 0).map V.int, ?_, ?_, B', ?_, e', ?_, hp0, hpb, hq0, hqb, ?_⟩
    · unfold seqIndex?
      rw [List.length_map]
      show (if (decide (0 ≤ (if ((ix i : Nat) : Int) < 0 then ((ix i : Nat) : Int) + ((fP i).length : Nat) else ((ix i : Nat) : Int))) && decide ((if ((ix i : Nat) : Int) < 0 then ((ix i : Nat) : Int) + ((fP i).length : Nat) else ((ix i : Nat) : Int)) < ((fP i).length : Nat))) = true then some (Int.toNat (if ((ix i : Nat) : Int) < 0 then ((ix i : Nat) : Int) + ((fP i).length : Nat) else ((ix i : Nat) : Int))) else none) = some (ix i)
      rw [if_neg (show ¬ ((ix i : Nat) : Int) < 0 by omega), decide_eq_true (by omega), decide_eq_true (by omega)]
      simp
    · rw [List.getElem?_map, List.getD_eq_getElem?_getD, List.getElem?_eq_getElem x1]; rfl
    · rw [upd_ne (Ne.symm hpq)]; exact hq3
    · rw [List.length_map, List.length_map, List.length_range]; exact sz_lt (by omega)
    · have N3 : New B0 H0 B' H3 := N'.trans (New.grow (N'.sub.trans n3.heap) n3.heap N'.sub)
      exact ⟨N3.ext, Evl.Ex.mut (Evl.Ex.mut N3.sub hpb) hqb, Evl.Ex.mut (Evl.Ex.mut N3.heap hp0) hq0, N3.fresh⟩
    · rw [upd_ne hpq, upd_same, map_erase, x3]
    · rw [upd_same, List.range_succ, List.map_append, List.map_append]; rfl
  · obtain ⟨B', N', e', hp, hp0, hpb, hq0, hqb, hqv⟩ := z
    have oq : Own H0 B' H' q (((List.range m).map fun k => (fP k).getD (ix k) 0).map V.int) := ⟨hq0, hqb, hqv⟩
    exact go q _ H' (N'.give oq) ((n1.ext.trans e').trans (Evl.Ex.new hqb)) (.lst upd_same (RA.ints _))
/-- p.insert(i, e), p a list of one's own that i may read -/
theorem s_ins {B0 H0 : Hp} {p : Addr} {us : List V} {es : List Dt} {x : Dt} {nn m : Nat} (n0 : New B0 H0 B H) (o : Own H0 B H p us) (ra : RA B us es) (hv : σ[nn]? = some (some (.ref p))) (hz : us.length < 1000) (hm : m < 1000)
    (h1 : EvR ta σ (upd B p (.lst us)) (.int (m : Nat))) (h2 : EvR tb σ B x)
    (go : ∀ (v : V) B1 H1, New B0 H0 B1 H1 → Ex B B1 → Own H0 B1 H1 p (us.take m ++ [v] ++ us.drop m) → RA B1 (us.take m ++ [v] ++ us.drop m) (es.take m ++ [x] ++ es.drop m) → D.nx σ H1) :
    tDrop (tBM K "list" rIns (tVar nn) (tCons ta (tCons tb tNil))) D σ H :=
  ⟨_, hv, .inl ⟨rfl, _, .inl (.inl o.h)⟩, h1 H (o.ex n0.sub) _ fun w B2 H2 n2 rw => by
    cases rw
    have eH : Ex B H2 := n0.sub.trans n2.heap
    have N2 : New B0 H0 B H2 := n0.trans (New.grow eH n2.heap n0.sub)
    refine h2 H2 eH _ fun v B3 H3 n3 rv => ?_
    have N3 := N2.trans n3
    have o2 : Own H0 B H2 p us := ⟨o.h0, o.b, n2.heap _ _ o.h⟩
    have o3 := o2.step n3
    refine ⟨p, us, _, v, rfl, rfl, o3.h, sz_lt (by omega), by omega, by omega, ?_⟩
    rw [Int.toNat_natCast]
    have ra3 := ra.mono n3.ext
    exact go v B3 _ (N3.put o3) n3.ext o3.put (((ra3.take m).append (RA.one rv)).append (ra3.drop m))⟩
end
end U

namespace U
open PySem L2
open Evl (Ex fresh_back sz_of sz_lt sq_of st_of rLenS rListS)
/-! ### < of data -/
def rLtD (K : PySem.W.Frag) : R2 := fun x y H Q => ∃ d e, Dp K H x d ∧ Dp K H y e ∧ PySem.W.alike d e = true ∧ d ≠ .none ∧ min d.depth e.depth ≤ 60 ∧ Q (.bl (PySem.W.dataLt d e)) H
theorem op_ltD {X : Cx} (hu : X.A.units + 64 < cLine) : OpR X (compareOp .Lt) (rLtD X.K) := by
  intro pins s σ H x y v u Q I rx ry h
  obtain ⟨d, e, hd, he, ha, hn, hm, q⟩ := h
  obtain ⟨as, r1⟩ := Dp.reads I d x v hd rx
  obtain ⟨bs, r2⟩ := Dp.reads I e y u he ry
  have z : wpAny (model X.prog X.w) X.A (compareOp .Lt v u) (EP X pins σ Q) X.xe s := PySem.W.rcLt_alike d e X.A s v u as bs r1 r2 ha hn (by omega) X.prog X.w X.xe (EP X pins σ Q) ⟨.bl _, H, I, rfl, q⟩
  exact z
theorem k_ltD {X : Cx} {K : PySem.W.Frag} (h : X.K = K) (hu : X.A.units + 64 < cLine) : OpR X (compareOp .Lt) (rLtD K) := h ▸ op_ltD hu
section
variable {K : PySem.W.Frag} {σ : L2.St} {B B' H : Hp} {ta tb te : TE} {tl tl2 : TA} {d x y : Dt} {ds : List Dt} {D : Ends} {i j n t : Nat} {ns ms : List Int}
theorem cln_ints : ∀ ns : List Int, clnAll (ns.map Dt.int) = true
  | [] => by simp [clnAll]
  | n :: ns => by rw [List.map_cons, clnAll, cln_ints ns, Dt.cln] <;> simp
theorem cln_set {a b : List Int} : (eSet a b).cln = true := by
  rw [Dt.cln, clnAll, clnAll, clnAll, Dt.cln, Dt.cln, cln_ints, cln_ints]; rfl
theorem rv_ltD (ha : PySem.W.alike x.py y.py = true) (hn : x.py ≠ .none) (hm : min x.py.depth y.py.depth ≤ 60) (cx : x.cln = true := by exact cln_set) (cy : y.cln = true := by exact cln_set) : RV (rLtD K) x y (.bl (PySem.W.dataLt x.py y.py)) := fun B H1 v w e r1 r2 Q q =>
  ⟨_, _, (r1.mono e).dp cx, (r2.mono e).dp cy, ha, hn, hm, q _ B H1 (New.refl e) (.bl _)⟩
theorem eqv_ints : ∀ (a b : List Int), PyData.eqvAll (pyAll (a.map Dt.int)) (pyAll (b.map Dt.int)) = decide (a = b)
  | [], [] => by simp [pyAll, PyData.eqvAll]
  | [], _ :: _ => by simp [pyAll, PyData.eqvAll]
  | _ :: _, [] => by simp [pyAll, PyData.eqvAll]
  | x :: a, y :: b => by
    rw [List.map_cons, List.map_cons, pyAll, pyAll, PyData.eqvAll, eqv_ints a b, Dt.py, Dt.py]
    have e : PyData.eqv (.int x) (.int y) = decide (x = y) := by
      simp only [PyData.eqv]
      first
        | rfl
        | (by_cases h : x = y <;> simp [h])
    rw [e]
    by_cases h1 : x = y
    · by_cases h2 : a = b
      · rw [decide_eq_true h1, decide_eq_true h2, decide_eq_true (by rw [h1, h2])]; rfl
      · rw [decide_eq_true h1, decide_eq_false h2, decide_eq_false (fun z => h2 (List.cons.inj z).2)]; rfl
    · rw [decide_eq_false h1, decide_eq_false (fun z => h1 (List.cons.inj z).1)]; rfl
theorem eqv_eI (a b : List Int) : PyData.eqv (eI a).py (eI b).py = decide (a = b) := by
  rw [← eqv_ints a b, Dt.py, Dt.py, PyData.eqv]
theorem alike_ints : ∀ (a b : List Int), PySem.W.alikeAll (pyAll (a.map Dt.int)) (pyAll (b.map Dt.int)) = true
  | [], [] => by simp [pyAll, PySem.W.alikeAll]
  | [], _ :: _ => by simp [pyAll, PySem.W.alikeAll]
  | _ :: _, [] => by simp [pyAll, PySem.W.alikeAll]
  | x :: a, y :: b => by
    rw [List.map_cons, List.map_cons, pyAll, pyAll, PySem.W.alikeAll, alike_ints a b, Dt.py, Dt.py, PySem.W.alike]; rfl
theorem alike_eI (a b : List Int) : PySem.W.alike (eI a).py (eI b).py = true := by
  rw [Dt.py, Dt.py, PySem.W.alike]; exact alike_ints a b
/-- lists of equal length in their order -/
def ltI : List Int → List Int → Bool
  | x :: xs, y :: ys => decide (x < y) || (decide (x = y) && ltI xs ys)
  | _, _ => false
theorem ltI_irr : ∀ a, ltI a a = false
  | [] => rfl
  | x :: a => by simp [ltI, ltI_irr a]
theorem lt_toks : ∀ (a b : List Int), ltI a b = true → PyProof.Rows.lexLt PyProof.Rows.itemOrd (PySem.W.keyToksAll (pyAll (a.map Dt.int))) (PySem.W.keyToksAll (pyAll (b.map Dt.int))) = true
  | [], _, h => by simp [ltI] at h
  | _ :: _, [], h => by simp [ltI] at h
  | x :: a, y :: b, h => by
    have hal : PySem.W.alike (Dt.int x).py (Dt.int y).py = true := by rw [Dt.py, Dt.py, PySem.W.alike]
    rw [List.map_cons, List.map_cons, pyAll, pyAll]
    rw [ltI, Bool.or_eq_true, Bool.and_eq_true, decide_eq_true_eq, decide_eq_true_eq] at h
    have he := eqv_ints [x] [y]
    by_cases hxy : x = y
    · subst hxy
      have h' : ltI a b = true := by rcases h with h | h; omega; exact h.2
      rw [PySem.W.dataLt_all_yes hal (PySem.W.eqv_refl_alike _ hal)]
      exact lt_toks a b h'
    · have hlt : x < y := by rcases h with h | h; exact h; exact absurd h.1 hxy
      have hne : PyData.eqv (Dt.int x).py (Dt.int y).py = false := by
        have : PyData.eqvAll [(Dt.int x).py] [(Dt.int y).py] = false := by
          have h2 := eqv_ints [x] [y]
          rw [decide_eq_false (fun z => hxy (List.cons.inj z).1)] at h2
          exact h2
        rw [PyData.eqvAll, PyData.eqvAll, Bool.and_true] at this
        exact this
      rw [PySem.W.dataLt_all_no hal hne, Dt.py, Dt.py, PySem.W.dataLt_int]
      exact decide_eq_true hlt
theorem lt_set {a b c d : List Int} (h : ltI a b = true ∨ (a = b ∧ ltI c d = true)) : PySem.W.dataLt (eSet a c).py (eSet b d).py = true ∧ PySem.W.alike (eSet a c).py (eSet b d).py = true ∧ (eSet a c).py ≠ .none ∧ min (eSet a c).py.depth (eSet b d).py.depth ≤ 60 := by
  have e1 : (eSet a c).py = .tuple [(eI a).py, (eI c).py] := by simp only [Dt.py, pyAll]
  have e2 : (eSet b d).py = .tuple [(eI b).py, (eI d).py] := by simp only [Dt.py, pyAll]
  have al1 := alike_eI a b
  have al2 := alike_eI c d
  refine ⟨?_, ?_, by rw [e1]; simp, ?_⟩
  · rw [e1, e2, PySem.W.dataLt_tuple]
    rcases h with h | ⟨rfl, h⟩
    · have hne : PyData.eqv (eI a).py (eI b).py = false := by
        rw [eqv_eI, decide_eq_false]
        intro z; subst z; rw [ltI_irr] at h; cases h
      rw [PySem.W.dataLt_all_no al1 hne, Dt.py, Dt.py, PySem.W.dataLt_list]
      exact lt_toks a b h
    · rw [PySem.W.dataLt_all_yes al1 (PySem.W.eqv_refl_alike _ al1)]
      have hne : PyData.eqv (eI c).py (eI d).py = false := by
        rw [eqv_eI, decide_eq_false]
        intro z; subst z; rw [ltI_irr] at h; cases h
      rw [PySem.W.dataLt_all_no al2 hne, Dt.py, Dt.py, PySem.W.dataLt_list]
      exact lt_toks c d h
  · rw [e1, e2, PySem.W.alike, PySem.W.alikeAll, PySem.W.alikeAll, PySem.W.alikeAll, al1, al2]; rfl
  · rw [dep_py]
    have : (eSet a c).dep = 2 := by rw [Dt.dep, depAll, depAll, depAll, Dt.dep, Dt.dep, depAll_ints, depAll_ints]; rfl
    omega
/-! ### list(range(n)) -/
theorem ev_listRg {n : Int} (h : EvR ta σ B (.int n)) (h0 : 0 ≤ n) (h1 : n ≤ 1000000) : EvR (tLstRg (tRg1 ta)) σ B (.lst ((List.range n.toNat).map fun i : Nat => Dt.int (i : Nat))) := fun H1 e Q q =>
  h H1 e _ fun v B2 H2 nw rv => by
    cases rv
    refine ⟨n, rfl, RgOk.of_le (by omega) (by omega) (by omega) (by omega), fun p hp => ?_⟩
    have er : rgV 0 n = (List.range n.toNat).map fun i : Nat => V.int (i : Nat) := by
      unfold rgV
      rw [Int.sub_zero]
      exact List.map_congr_left fun i _ => by rw [Int.zero_add]
    rw [er]
    exact q _ _ _ (nw.trans (New.one nw.sub hp)) (.lst upd_same (ra_rng _))
/-! ### several lists of one's own -/
/-- the base with what stands at the places as -/
def gB (B H : Hp) (as : List Addr) : Hp := fun a => if a ∈ as then H a else B a
theorem gB_ex {as : List Addr} (e : Ex B H) : Ex (gB B H as) H := fun a u h => by
  unfold gB at h
  split at h
  · exact h
  · exact e a u h
theorem gB_ext {as : List Addr} (hb : ∀ a ∈ as, B a = none) : Ex B (gB B H as) := fun a u h => by
  unfold gB
  rw [if_neg (fun z => by rw [hb a z] at h; cases h)]
  exact h
theorem New.giveA {B0 H0 : Hp} {as : List Addr} (n : New B0 H0 B H) (ho : ∀ a ∈ as, H0 a = none ∧ B a = none) : New B0 H0 (gB B H as) H :=
  ⟨n.ext.trans (gB_ext fun a h => (ho a h).2), gB_ex n.sub, n.heap, fun a h1 h2 => by
    unfold gB
    rw [if_neg (fun z => h2 (ho a z).1)]
    exact n.fresh a h1 h2⟩
structure Pr where
  p : Addr
  q : Addr
  r : List Int
  c : List Int
def adrs (es : List Pr) : List Addr := es.flatMap fun e => [e.p, e.q]
structure PrOk (H0 B H : Hp) (v : V) (e : Pr) : Prop where
  t : ∃ t, v = .ref t ∧ B t = some (.tup [.ref e.p, .ref e.q])
  p : Own H0 B H e.p (e.r.map V.int)
  q : Own H0 B H e.q (e.c.map V.int)
/-- the values ts are tuples of two lists of one's own each -/
inductive Prs (H0 B H : Hp) : List V → List Pr → Prop
  | nil : Prs H0 B H [] []
  | cons {v : V} {vs : List V} {e : Pr} {es : List Pr} : PrOk H0 B H v e → Prs H0 B H vs es → Prs H0 B H (v :: vs) (e :: es)
theorem PrOk.step {H0 B1 H1 : Hp} {v : V} {e : Pr} (o : PrOk H0 B H v e) (n : New B H B1 H1) : PrOk H0 B1 H1 v e := by
  obtain ⟨⟨t, h1, h2⟩, p, q⟩ := o
  exact ⟨⟨t, h1, n.ext _ _ h2⟩, p.step n, q.step n⟩
theorem Prs.step {H0 B1 H1 : Hp} (n : New B H B1 H1) : ∀ {vs : List V} {es : List Pr}, Prs H0 B H vs es → Prs H0 B1 H1 vs es
  | _, _, .nil => .nil
  | _, _, .cons a b => .cons (a.step n) (Prs.step n b)
theorem Prs.append {H0 : Hp} : ∀ {vs ws : List V} {es fs : List Pr}, Prs H0 B H vs es → Prs H0 B H ws fs → Prs H0 B H (vs ++ ws) (es ++ fs)
  | _, _, _, _, .nil, k => k
  | _, _, _, _, .cons a b, k => .cons a (Prs.append b k)
theorem Prs.len {H0 : Hp} : ∀ {vs : List V} {es : List Pr}, Prs H0 B H vs es → vs.length = es.length
  | _, _, .nil => rfl
  | _, _, .cons _ b => by rw [List.length_cons, List.length_cons, Prs.len b]
theorem Prs.own {H0 : Hp} : ∀ {vs : List V} {es : List Pr}, Prs H0 B H vs es → ∀ a ∈ adrs es, H0 a = none ∧ B a = none
  | _, _, .nil, a, h => by cases h
  | _, _, .cons (e := e) (es := es) x b, a, h => by
    have h : a ∈ [e.p, e.q] ++ adrs es := h
    rcases List.mem_append.mp h with h | h
    · rcases List.mem_cons.mp h with h | h
      · rw [h]; exact ⟨x.p.h0, x.p.b⟩
      · rw [List.mem_singleton.mp h]; exact ⟨x.q.h0, x.q.b⟩
    · exact Prs.own b a h
theorem Prs.get {H0 : Hp} : ∀ {vs : List V} {es : List Pr} {i : Nat} {v : V}, Prs H0 B H vs es → vs[i]? = some v → ∃ e, es[i]? = some e ∧ PrOk H0 B H v e
  | _, _, _, _, .nil, h => by simp at h
  | _, _, 0, _, .cons a b, h => by simp at h; subst h; exact ⟨_, rfl, a⟩
  | _, _, i + 1, _, .cons a b, h => by
    obtain ⟨e, h1, h2⟩ := Prs.get (i := i) b (by simpa using h)
    exact ⟨e, by simpa using h1, h2⟩
/-- other places have changed -/
theorem Prs.other {H0 B1 H1 : Hp} : ∀ {vs : List V} {es : List Pr}, (∀ a ∈ adrs es, H1 a = H a ∧ B1 a = none) → Ex B B1 → Prs H0 B H vs es → Prs H0 B1 H1 vs es
  | [], [], _, _, .nil => .nil
  | _ :: _, e :: es, h, e1, .cons x b => by
    have h : ∀ a ∈ [e.p, e.q] ++ adrs es, H1 a = H a ∧ B1 a = none := h
    have hp := h e.p (by simp)
    have hq := h e.q (by simp)
    obtain ⟨⟨t, h1, h2⟩, p, q⟩ := x
    exact .cons ⟨⟨t, h1, e1 _ _ h2⟩, ⟨p.h0, hp.2, by rw [hp.1]; exact p.h⟩, ⟨q.h0, hq.2, by rw [hq.1]; exact q.h⟩⟩ (Prs.other (fun a ha => h a (List.mem_append_right _ ha)) e1 b)
/-- as data -/
theorem Prs.data {H0 : Hp} {as : List Addr} (e0 : Ex B H) : ∀ {vs : List V} {es : List Pr}, (∀ a ∈ adrs es, a ∈ as) → (∀ a ∈ as, B a = none) → Prs H0 B H vs es → RA (gB B H as) vs (es.map fun e => eSet e.r e.c)
  | [], [], _, _, .nil => .nil
  | _ :: _, e :: es, h, hb, .cons x b => by
    have h : ∀ a ∈ [e.p, e.q] ++ adrs es, a ∈ as := h
    obtain ⟨⟨t, h1, h2⟩, p, q⟩ := x
    subst h1
    have gp : gB B H as e.p = some (.lst (e.r.map V.int)) := by unfold gB; rw [if_pos (h e.p (by simp))]; exact p.h
    have gq : gB B H as e.q = some (.lst (e.c.map V.int)) := by unfold gB; rw [if_pos (h e.q (by simp))]; exact q.h
    exact .cons (.tup (gB_ext hb _ _ h2) (.cons (.lst gp (RA.ints _)) (.cons (.lst gq (RA.ints _)) .nil))) (Prs.data e0 (fun a ha => h a (List.mem_append_right _ ha)) hb b)
/-- a new list of new pairs of new lists -/
def EvP (te : TE) (σ : L2.St) (B : Hp) (l : List (List Int × List Int)) : Prop := ∀ H1, Ex B H1 → ∀ Q : VK, (∀ a ts es B2 H2, New B H1 B2 H2 → B2 a = some (.lst ts) → Prs H1 B2 H2 ts es → (adrs es).Nodup → (es.map fun e => (e.r, e.c)) = l → Q (.ref a) H2) → te σ H1 Q
theorem EvP.toR {l : List (List Int × List Int)} (h : EvP te σ B l) : EvR te σ B (.lst (l.map fun x => eSet x.1 x.2)) := fun H1 e Q q => h H1 e Q fun a ts es B2 H2 n ha pr _ hl => by
  refine q _ (gB B2 H2 (adrs es)) H2 (n.giveA (pr.own)) (.lst (gB_ext (fun a h => (pr.own a h).2) _ _ ha) ?_)
  rw [← hl, List.map_map]
  exact pr.data n.sub (fun _ h => h) fun a h => (pr.own a h).2
theorem adrs_snoc (es : List Pr) (e : Pr) : adrs (es ++ [e]) = adrs es ++ [e.p, e.q] := by unfold adrs; rw [List.flatMap_append]; rfl
/-- [(list(x), list(y)) for x in ta for y in tb] -/
theorem ep_lc2 {l m : List (List Int)} {vs vs1 : List Nat} {wi wi1 : TI} {j1 : Nat} (ho : Goes wi σ B (l.map eI)) (hz : l.length * m.length < 100000)
    (hw : ∀ x, wipe ((wipe σ vs).set j (some x)) vs = wipe σ vs) (hw1 : ∀ x y, wipe ((wipe ((wipe σ vs).set j (some x)) vs1).set j1 (some y)) vs1 = wipe ((wipe σ vs).set j (some x)) vs1)
    (hi : ∀ v B1, Ex B B1 → Goes wi1 ((wipe σ vs).set j (some v)) B1 (m.map eI))
    (h1 : ∀ v u, ((wipe ((wipe σ vs).set j (some v)) vs1).set j1 (some u))[j]? = some (some v)) (h2 : ∀ v u, ((wipe ((wipe σ vs).set j (some v)) vs1).set j1 (some u))[j1]? = some (some u)) :
    EvP (tLc2 wi (gName j) tYes wi1 (gName j1) tYes (tTup (tCons (tCB (rListS K) (tCons (tVar j) tNil)) (tCons (tCB (rListS K) (tCons (tVar j1) tNil)) tNil))) vs vs1) σ B (l.flatMap fun a => m.map fun b => (a, b)) := fun H0 e0 Q k => ho H0 e0 _ fun J B1 H1 n lp D hD => by
  have lenF : ∀ i, ((l.take i).flatMap fun a => m.map fun b => (a, b)).length ≤ l.length * m.length := fun i => by
    have h : ∀ q : List (List Int), (q.flatMap fun a => m.map fun b => (a, b)).length = q.length * m.length := fun q => by
      induction q with
      | nil => simp
      | cons a q ih => rw [List.flatMap_cons, List.length_append, ih, List.length_map, List.length_cons, Nat.succ_mul, Nat.add_comm]
    rw [h]
    exact Nat.mul_le_mul_right _ (by rw [List.length_take]; omega)
  refine lp (fun x H' N => gName j x (wipe σ vs) H' fun σ2 H2 => wipe σ2 vs = wipe σ vs ∧ tYes σ2 H2 fun b H3 => if b = true then _ else N H3) _ (fun i H' => ∃ B' acc es, New B1 H1 B' H' ∧ Own H1 B' H' D acc ∧ Prs H1 B' H' acc es ∧ (D :: adrs es).Nodup ∧ (es.map fun e => (e.r, e.c)) = (l.take i).flatMap fun a => m.map fun b => (a, b)) (upd H1 D (.lst [])) (n.sub.trans (Evl.Ex.new hD)) ?_ ?_ ?_
  · exact ⟨B1, [], [], ⟨Evl.Ex.refl _, Evl.Ex.mut n.sub (fresh_back n.sub hD), Evl.Ex.new hD, fun _ h _ => h⟩, ⟨hD, fresh_back n.sub hD, upd_same⟩, .nil, by simp [adrs], rfl⟩
  · rintro i d x H' e1 hd rx ⟨B', acc, es, n', o, pr, nd, hes⟩
    rw [List.getElem?_map] at hd
    cases hq : l[i]? with
    | none => rw [hq] at hd; cases hd
    | some a =>
    rw [hq] at hd; cases hd
    refine ⟨hw x, ?_⟩
    have bD : B1 D = none := fresh_back n.sub hD
    refine (hi x B' (n.ext.trans n'.ext)) H' n'.sub _ fun J1 B2 H2 n2 lp1 => ?_
    have b2D : B2 D = none := n2.fresh D o.b (by rw [o.h]; simp)
    refine lp1 (fun y H'' N => gName j1 y (wipe ((wipe σ vs).set j (some x)) vs1) H'' fun σ3 H5 => wipe σ3 vs1 = wipe ((wipe σ vs).set j (some x)) vs1 ∧ tYes σ3 H5 fun b H6 => if b = true then (tTup (tCons (tCB (rListS K) (tCons (tVar j) tNil)) (tCons (tCB (rListS K) (tCons (tVar j1) tNil)) tNil))) σ3 H6 fun y H7 => ∃ acc, H7 D = some (.lst acc) ∧ acc.length < sizeLine ∧ N (upd H7 D (.lst (acc ++ [y]))) else N H6) _
      (fun i2 H'' => ∃ B3 acc es, Ex B2 B3 ∧ New B1 H1 B3 H'' ∧ Own H1 B3 H'' D acc ∧ Prs H1 B3 H'' acc es ∧ (D :: adrs es).Nodup ∧ (es.map fun e => (e.r, e.c)) = ((l.take i).flatMap fun a => m.map fun b => (a, b)) ++ (m.take i2).map fun b => (a, b)) H2 n2.sub ?_ ?_ ?_
    · exact ⟨B2, acc, es, Evl.Ex.refl _, n'.trans n2, o.step n2, pr.step n2, nd, by rw [hes, List.take_zero]; simp⟩
    · rintro i2 d2 u H'' e2 hd2 ru ⟨B3, acc3, es3, e23, n3, o3, pr3, nd3, hes3⟩
      rw [List.getElem?_map] at hd2
      cases hq2 : m[i2]? with
      | none => rw [hq2] at hd2; cases hd2
      | some b =>
      rw [hq2] at hd2; cases hd2
      refine ⟨hw1 x u, ?_⟩
      have len : acc3.length < 100000 := by
        rw [pr3.len]
        have h3 := congrArg List.length hes3
        rw [List.length_map, List.length_append, List.length_map] at h3
        have h4 := lenF (i + 1)
        rw [List.take_add_one, hq, List.flatMap_append, List.length_append] at h4
        have h5 : ((some a).toList.flatMap fun a => m.map fun b => (a, b)).length = m.length := by simp
        rw [h5] at h4
        have h6 : (m.take i2).length ≤ m.length := by rw [List.length_take]; omega
        omega
      unfold tYes
      dsimp only
      rw [if_pos rfl]
      have rx3 := (rx.mono n'.ext).mono (n2.ext.trans e23)
      refine (el_list (K := K) (ev_v (h1 x u) rx3)) H'' n3.sub _ fun p us B4 H4 n4 o4 ra4 => ?_
      have eus := ra4.ints_inv
      subst eus
      refine (el_list (K := K) (ev_v (h2 x u) ((ru.mono e23).mono n4.ext))) H4 n4.sub _ fun q us B5 H5 n5 o5 ra5 => ?_
      have eus := ra5.ints_inv
      subst eus
      refine ⟨sz_of (by simp), fun t ht => ?_⟩
      have n45 := n4.trans n5
      have tb := fresh_back n5.sub ht
      have n6 : New B3 H'' (upd B5 t (.tup [.ref p, .ref q])) (upd H5 t (.tup [.ref p, .ref q])) := n45.trans (New.one n5.sub ht)
      have N6 := n3.trans n6
      have D6 := o3.step n6
      have pt : p ≠ t := fun z => by subst z; rw [(o4.step n5).h] at ht; cases ht
      have qt : q ≠ t := fun z => by subst z; rw [o5.h] at ht; cases ht
      have op : Own H1 (upd B5 t (.tup [.ref p, .ref q])) (upd H5 t (.tup [.ref p, .ref q])) p (a.map V.int) := ⟨fresh_back n3.heap o4.h0, by rw [upd_ne pt]; exact (o4.step n5).b, by rw [upd_ne pt]; exact (o4.step n5).h⟩
      have oq : Own H1 (upd B5 t (.tup [.ref p, .ref q])) (upd H5 t (.tup [.ref p, .ref q])) q (b.map V.int) := ⟨fresh_back (n3.heap.trans n4.heap) o5.h0, by rw [upd_ne qt]; exact o5.b, by rw [upd_ne qt]; exact o5.h⟩
      have pD : p ≠ D := fun z => by have := o4.h0; rw [z, o3.h] at this; cases this
      have qD : q ≠ D := fun z => by have := o5.h0; rw [z, (o3.step n4).h] at this; cases this
      have pq : p ≠ q := fun z => by have := o5.h0; rw [← z, o4.h] at this; cases this
      have inH : ∀ z ∈ adrs es3, ∃ w, H'' z = some w := fun z hz => by
        have : ∀ {vs : List V} {es : List Pr}, Prs H1 B3 H'' vs es → z ∈ adrs es → ∃ w, H'' z = some w := by
          intro vs es pr
          induction pr with
          | nil => intro h; cases h
          | cons a b ih =>
            rename_i v vs e es
            intro h
            have h : z ∈ [e.p, e.q] ++ adrs es := h
            rcases List.mem_append.mp h with h | h
            · rcases List.mem_cons.mp h with h | h
              · rw [h]; exact ⟨_, a.p.h⟩
              · rw [List.mem_singleton.mp h]; exact ⟨_, a.q.h⟩
            · exact ih h
        exact this pr3 hz
      have pN : p ∉ adrs es3 := fun z => by obtain ⟨w, hw⟩ := inH p z; rw [o4.h0] at hw; cases hw
      have qN : q ∉ adrs es3 := fun z => by obtain ⟨w, hw⟩ := inH q z; have := n4.heap _ _ hw; rw [o5.h0] at this; cases this
      have prN : Prs H1 (upd B5 t (.tup [.ref p, .ref q])) (upd H5 t (.tup [.ref p, .ref q])) (acc3 ++ [V.ref t]) (es3 ++ [⟨p, q, a, b⟩]) := (pr3.step n6).append (.cons ⟨⟨t, rfl, upd_same⟩, op, oq⟩ .nil)
      have ndN : (D :: adrs (es3 ++ [⟨p, q, a, b⟩])).Nodup := by
        rw [adrs_snoc]
        have nd1 := List.nodup_cons.mp nd3
        refine List.nodup_cons.mpr ⟨fun z => ?_, List.nodup_append.mpr ⟨nd1.2, by simp [pq], fun z hz y hy e => ?_⟩⟩
        · rcases List.mem_append.mp z with z | z
          · exact nd1.1 z
          · rcases List.mem_cons.mp z with z | z
            · exact pD z.symm
            · exact qD (List.mem_singleton.mp z).symm
        · subst e
          rcases List.mem_cons.mp hy with h | h
          · rw [h] at hz; exact pN hz
          · rw [List.mem_singleton.mp h] at hz; exact qN hz
      refine ⟨acc3, D6.h, sz_lt len, Evl.Ex.mut (e23.trans (n6.ext.trans n6.sub)) b2D, _, _, es3 ++ [⟨p, q, a, b⟩], e23.trans n6.ext, N6.put D6, D6.put, prN.other (fun z hz => ⟨upd_ne (fun e => ?_), (prN.own z hz).2⟩) (Evl.Ex.refl _), ndN, ?_⟩
      · subst e; exact (List.nodup_cons.mp ndN).1 hz
      · rw [List.map_append, hes3, List.take_add_one, hq2, List.map_append, List.append_assoc]; rfl
    · rintro H'' e2 ⟨B3, acc3, es3, e23, n3, o3, pr3, nd3, hes3⟩
      refine ⟨n3.ext.trans n3.sub, B3, acc3, es3, n3, o3, pr3, nd3, ?_⟩
      rw [hes3, List.length_map, List.take_length, List.take_add_one, hq, List.flatMap_append]
      simp
  · rintro H' e1 ⟨B', acc, es, n', o, pr, nd, hes⟩
    rw [List.length_map, List.take_length] at hes
    have nd1 := List.nodup_cons.mp nd
    have N := n.trans n'
    have og : Own H0 B' H' D acc := n.own o
    refine k D acc es _ H' (N.give og) upd_same ?_ nd1.2 hes
    have pr0 : Prs H0 B' H' acc es := by
      have : ∀ {vs : List V} {es : List Pr}, Prs H1 B' H' vs es → Prs H0 B' H' vs es := by
        intro vs es pr
        induction pr with
        | nil => exact .nil
        | cons a b ih => exact .cons ⟨a.t, n.own a.p, n.own a.q⟩ ih
      exact this pr
    exact pr0.other (fun z hz => ⟨rfl, by rw [upd_ne (fun e => by subst e; exact nd1.1 hz)]; exact (pr0.own z hz).2⟩) (Evl.Ex.new o.b)
/-- a promise: such a list -/
def spP (g : List Dt → List (List Int × List Int) → Prop) : Sp := fun vs H Q _ => ∃ B as l, Ex B H ∧ RA B vs as ∧ g as l ∧ ∀ a ts es B2 H2, New B H B2 H2 → B2 a = some (.lst ts) → Prs H B2 H2 ts es → (adrs es).Nodup → (es.map fun e => (e.r, e.c)) = l → Q (.ref a) H2
theorem Prs.back {H0 H1 : Hp} (e : Ex H0 H1) : ∀ {vs : List V} {es : List Pr}, Prs H1 B H vs es → Prs H0 B H vs es
  | _, _, .nil => .nil
  | _, _, .cons a b => .cons ⟨a.t, ⟨fresh_back e a.p.h0, a.p.b, a.p.h⟩, ⟨fresh_back e a.q.h0, a.q.b, a.q.h⟩⟩ (Prs.back e b)
theorem ep_call {xs : List Dt} {l : List (List Int × List Int)} {g : List Dt → List (List Int × List Int) → Prop} {E : XK} (h : EvRA tl σ B xs) (hg : g xs l) : EvP (tCall (spP g) [] E tl) σ B l := fun H1 e Q q => h H1 e _ fun vs B1 H2 n ra => by
  refine ⟨B1, xs, l, n.sub, by rw [List.append_nil]; exact ra, hg, fun a ts es B2 H3 n2 ha pr nd hl => q a ts es B2 H3 (n.trans n2) ha (pr.back n.heap) nd hl⟩
theorem ep_callK {xs zs : List Dt} {l : List (List Int × List Int)} {g : List Dt → List (List Int × List Int) → Prop} {E : XK} {tk : TA} {gV : List V → List V → List V} {gD : List Dt → List Dt → List Dt} (h : EvRA tl σ B xs) (hk : EvRA tk σ B zs) (rel : ∀ B vs ws as bs, RA B vs as → RA B ws bs → as.length = xs.length → bs.length = zs.length → RA B (gV vs ws) (gD as bs)) (hg : g (gD xs zs) l) :
    EvP (tCallK (spP g) gV E tl tk) σ B l := fun H1 e Q q => h H1 e _ fun vs B1 H2 n ra => (hk.mono n.ext) H2 n.sub _ fun ws B2 H3 n2 rb =>
  ⟨B2, _, l, n2.sub, rel B2 vs ws xs zs (ra.mono n2.ext) rb rfl rfl, hg, fun a ts es B3 H4 n3 ha pr nd hl => q a ts es B3 H4 ((n.trans n2).trans n3) ha (pr.back (n.trans n2).heap) nd hl⟩
end
section
variable {K : PySem.W.Frag} {σ : L2.St} {B B' H : Hp} {D : Ends} {tu : TS} {g : TG} {n : Nat}
theorem s_asgP {te : TE} {q : Nat} {l : List (List Int × List Int)} (e : Ex B H) (h : EvP te σ B l) (k : ∀ a ts es B1 H1, New B H B1 H1 → B1 a = some (.lst ts) → Prs H B1 H1 ts es → (adrs es).Nodup → (es.map fun e => (e.r, e.c)) = l → D.nx (σ.set q (some (.ref a))) H1) : tAsg te (gName q) D σ H := h H e _ k
/-- over a list that is not all told -/
theorem s_forRaw {a : Addr} {ts : List V} (e : Ex B H) (hv : σ[n]? = some (some (.ref a))) (hB : B a = some (.lst ts)) (Pv : Nat → L2.St → Hp → Prop) (h0 : Pv 0 σ H) (hx : ∀ i σ' H', Pv i σ' H' → Ex B H')
    (hs : ∀ i v σ' H', ts[i]? = some v → Pv i σ' H' → g v σ' H' fun σ2 H2 => tu { D with nx := Pv (i + 1), ct := Pv (i + 1), bk := D.nx } σ2 H2)
    (hd : ∀ σ' H', Pv ts.length σ' H' → D.nx σ' H') : tFor (iSeq K (tVar n)) g tu D σ H :=
  ⟨_, hv, a, rfl, .inl ⟨⟨ts, sq_of (e _ _ hB)⟩, for_list (K := K) (a := a) (xs := ts) Pv h0 (fun i σ' H' _ q => sq_of (hx i σ' H' q _ _ hB)) (fun i v σ' H' hi q => hs i v σ' H' hi q) hd⟩⟩
/-- t[i].append(z), t a tuple -/
theorem s_appRaw {t p : Addr} {vs us : List V} {i z : Int} (hv : σ[n]? = some (some (.ref t))) (ht : H t = some (.tup vs)) (hi : atI vs i = some (.ref p)) (hp : H p = some (.lst us)) (hz : us.length < 100000) (go : D.nx σ (upd H p (.lst (us ++ [.int z])))) :
    tDrop (tBM K "list" rAppend (tOp (rIx K) (tVar n) (tC (.int i))) (tCons (tC (.int z)) tNil)) D σ H :=
  ⟨_, hv, .inr (.inl ⟨t, vs, i, .ref p, rfl, rfl, st_of ht, hi, ⟨.inl ⟨rfl, _, .inl (.inl hp)⟩, ⟨p, us, .int z, rfl, rfl, hp, sz_lt hz, go⟩⟩⟩)⟩
end
section
variable {P : Program} {w : World} {K : PySem.W.Frag} {mg : Str → Option Value} {base : Heap}
open PySem.Spec PyProof.Rows in
theorem fn_P {x qual : Str} {st : Stmt} {f : Addr} {fd : FuncData} {N ps : List Str} {k : Nat} {g : List Dt → List (List Int × List Int) → Prop} (F : Fun K x qual st f fd) (S : FnScope N ps (defScope st)) (len : ∀ ds d, g ds d → ds.length = ps.length)
    (body : ∀ (cdv : Value) (Γ : Around) (below : List Env) (s : Shared) (B H : Hp) (vs : List V) (as : List Dt) (l : List (List Int × List Int)) (Q : VK) (E : XK), Γ.guards = some [] → Room k (Γ.deeper (envOfC qual (defScope st) s.heap.objs.size f cdv)) →
      Ex B H → RA B vs as → g as l → (∀ a ts es B2 H2, New B H B2 H2 → B2 a = some (.lst ts) → Prs H B2 H2 ts es → (adrs es).Nodup → (es.map fun e => (e.r, e.c)) = l → Q (.ref a) H2) →
      ∃ t, PSs (cxOf CX0 P w K mg base N qual (defScope st) f cdv Γ below s H E).nox (defBody st) t ∧ t { nx := fun _ H' => Q .non H', rt := Q } (start N vs) H) : FnG P w K mg base CX0 (k + 1) f fd ps (spP g) := by
  refine fn_S F S (fun vs H Q E h => ?_) (fun cdv Γ below s H vs Q E hg hr h => ?_)
  · obtain ⟨B, as, ds, _, ra, hd, _⟩ := h
    rw [ra.len]
    exact len as ds hd
  · obtain ⟨B, as, ds, e, ra, hd, q⟩ := h
    exact body cdv Γ below s B H vs as ds Q E hg hr e ra hd q
end
end U

namespace U
open PySem PySem.Spec PyProof.Rows L2
open Evl (Ex fresh_back sz_of sz_lt sq_of st_of rLenS rListS)
theorem takesN {X : Cx} : Takes X (fun _ _ _ _ => False) := fun _ _ x => by
  obtain ⟨_, _, _, _, _, _, _, _, _, _, _, _, _, _, _, _, z⟩ := x
  exact z.elim
theorem passF {X : Cx} : Passes (L2.CX X.prog X.w) X (fun _ _ _ => False) := fun _ _ _ _ _ _ _ ⟨_, _, _, _, _, _, _, _, _, _, _, _, z⟩ => z.elim
section
variable {CX : CXT} {X : Cx} {k : Nat} {f : Addr} {fd : FuncData} {ps : List Str} {sp : Sp} {E : L2.St → XK} {x : Str} {p pos : Pos} {e : Expr} {es : List Expr} {t : TA}
theorem goneS {pins : List (Addr × Obj)} {σ : L2.St} {H : Hp} {s : Shared} {Q : VK} {given : Args} {us : List Value} {as : List V} (F : FnG X.prog X.w X.K X.mg X.base CX k f fd ps sp) (g : X.A.guards = some []) (room : Room k X.A)
    (pass : PassesAt CX X σ (E σ)) (I : Inv X pins σ H s) (hb : BindsTo s fd given (ps.zip us)) (hv : Vals as us) (asked : sp as H Q (E σ)) :
    codeAny (model X.prog X.w) X.A (.call (.ref f) given) (fun r s' => match r with | .ok (.ret u) => EP X pins σ Q u s' | .ok _ => False | .error z => X.xe z s') s := by
  refine codeAny_mono (F.goes X.A g room X.stack s H I.env0 given us as hb hv Q (E σ) asked) (fun r s' z => ?_)
  match r, z with
  | .error a, z => exact pass pins H s a s' I z
  | .ok (.ret u), z => exact I.after z
  | .ok .next, z => exact z.elim
  | .ok .brk, z => exact z.elim
  | .ok .cont, z => exact z.elim
/-- f(e, ..), in a try -/
theorem pe_goS (F : FnG X.prog X.w X.K X.mg X.base CX k f fd ps sp) (g : X.A.guards = some []) (room : Room k X.A) (glob : Gl X x) (at_ : X.mg x = some (.ref f)) (kept : PySem.W.keepIn X.K (.ref f) = true)
    (hb : Binds X.K fd ps []) (pass : ∀ σ, PassesAt CX X σ (E σ)) (ha : PA X (e :: es) t) (nd : (x == ("__debug__" : Str)) = false := by decide)
    (he : starEach (e :: es) X.env = (false, eval e X.env) :: starEach es X.env := by rfl) (plain : (backTo pos (starEach es X.env)).any (·.1) = false := by rfl) :
    PE X (.Call (.Name x p) (e :: es) [] pos) (tCallS sp E t) := by
  constructor
  intro pins s σ H Q I h
  apply wpAny_Call_Name_kw (ld_glob I glob at_ _ nd)
  refine PySem.W.callWith_K (h₀ := X.base) I.ok.mod.kin kept (thn (ha.run pos pins s σ H _ I h) ?_) he plain
  rintro us s1 ⟨as, H1, I1, rv, asked⟩
  have many : us.length = ps.length := by rw [← rv.length]; exact F.long _ _ _ _ asked
  have bound := hb s1 us I1.kIn (by simpa using many)
  rw [List.append_nil] at bound
  exact ⟨I1.kIn, wpAny_call (goneS F g room (pass σ) I1 bound rv asked)⟩
end
/-- an error class of the program's own, made with one text -/
structure ExcT (K : PySem.W.Frag) (mg : Str → Option Value) (x : Str) (C : Addr) : Prop where
  g : mg x = some (.ref C)
  k : PySem.W.keepIn K (.ref C) = true
  x : PySem.W.excIn K C [.type "ValueError", .type "Exception", .type "BaseException", .type "object"] "ValueError.__new__" = true
  b : PySem.W.subIn K (.ref C) (.type "BaseException") = some true
  t : PySem.W.typeIn K (.ref C) = some (.type "type")
  i : ExcC K C
  v : PySem.W.subIn K (.ref C) (.type "ValueError") = some true
/-- an error class in an except clause -/
structure ExcP (K : PySem.W.Frag) (mg : Str → Option Value) (x : Str) (C : Addr) : Prop where
  g : mg x = some (.ref C)
  b : PySem.W.subIn K (.ref C) (.type "BaseException") = some true
  d : PySem.W.hasDictIn K C = true
  t : PySem.W.typeIn K (.ref C) = some (.type "type")
def cAt (mg : Str → Option Value) (x : Str) : Addr := match mg x with
  | some (.ref C) => C
  | _ => 0
theorem cAt_of {mg : Str → Option Value} {x : Str} {C : Addr} (h : mg x = some (.ref C)) : cAt mg x = C := by unfold cAt; rw [h]
/-- isinstance(e, c), e the error that the suite holds -/
def rIsEx (K : PySem.W.Frag) (a : Addr) (cls : Value) (d : Option Addr) : List V → Hp → VK → Prop := fun xs H Q => ∃ D, cls = .ref D ∧ d = none ∧ ExcC K D ∧ rIsE K D a xs H Q
theorem call_isEx {X : Cx} {a : Addr} {cls : Value} {d : Option Addr} {oe : Obj} {pn : List (Addr × Obj)} (hz : Zc cls d oe) (hf : ∃ vs, oe.data = .fields vs) : CallR (X.suite a ((a, oe) :: pn)) (.builtin "isinstance") (rIsEx X.K a cls d) := by
  intro pins s σ H xs us Q I r h
  obtain ⟨D, rfl, rfl, C, h⟩ := h
  exact call_isE C hz hf pins s σ H xs us Q I r h
theorem k_isEx {K : PySem.W.Frag} {X : Cx} {a : Addr} {cls : Value} {d : Option Addr} {oe : Obj} {pn : List (Addr × Obj)} (h : X.K = K) (hz : Zc cls d oe) (hf : ∃ vs, oe.data = .fields vs) : CallR (X.suite a ((a, oe) :: pn)) (.builtin "isinstance") (rIsEx K a cls d) := h ▸ call_isEx hz hf
theorem kit_self {K : PySem.W.Frag} {C : Addr} : PySem.W.kitOne K (.ref C) (.ref C) = some true := by
  unfold PySem.W.kitOne
  rw [if_pos (by simp)]
theorem kit_val {K : PySem.W.Frag} {C : Addr} (h : PySem.W.subIn K (.ref C) (.type "ValueError") = some true) : PySem.W.kitOne K (.ref C) (.type "ValueError") = some true := by
  unfold PySem.W.kitOne
  rw [if_neg (by simp)]
  show (if PySem.W.kitMeta "ValueError" = true then PySem.W.subIn K (.ref C) (.type "ValueError") else none) = some true
  rw [if_pos (by decide +kernel)]
  exact h
section
variable {P : Program} {w : World} {K : PySem.W.Frag} {mg : Str → Option Value} {base : Heap}
/-- a def that may raise, by its body -/
theorem fn_X {x qual : Str} {st : Stmt} {f : Addr} {fd : FuncData} {N ps : List Str} {k : Nat} {sp : Sp} (F : Fun K x qual st f fd) (S : FnScope N ps (defScope st)) (len : ∀ vs H Q E, sp vs H Q E → vs.length = ps.length)
    (body : ∀ (cdv : Value) (Γ : Around) (below : List Env) (s : Shared) (H : Hp) (vs : List V) (Q : VK) (E : XK), Γ.guards = some [] → Room k (Γ.deeper (envOfC qual (defScope st) s.heap.objs.size f cdv)) → sp vs H Q E →
      ∃ t, PSs (cxOf (L2.CX P w) P w K mg base N qual (defScope st) f cdv Γ below s H E) (defBody st) t ∧ t { nx := fun _ H' => Q .non H', rt := Q } (start N vs) H) : FnG P w K mg base (L2.CX P w) (k + 1) f fd ps sp := by
  obtain ⟨oc, od, kV, doc, pm, an, cdv, ct, osl, rfl, lk, hcd⟩ := F.ex
  refine fnG_of lk hcd S len (fun Γ below s H vs Q E hg hr h => ?_)
  exact body cdv Γ below s H vs Q E hg hr h
end
/-- a promise: a tuple of two lists of one's own, or the error C -/
def spS (C : Addr) (g : List Dt → Option (List Int × List Int) → Prop) : Sp := fun vs H Q E => ∃ B as o, Ex B H ∧ RA B vs as ∧ g as o ∧
  (∀ x, o = some x → ∀ (t : Addr) (e : Pr) B2 H2, New B H B2 H2 → PrOk H B2 H2 (.ref t) e → e.p ≠ e.q → (e.r, e.c) = x → Q (.ref t) H2) ∧ (o = none → ∀ H2, Ex H H2 → E (.ref C) none H2)
section
variable {K : PySem.W.Frag} {σ : L2.St} {B B' H : Hp} {ta tb te : TE} {ds : List Dt} {D : Ends} {H0 : Hp} {p : Addr}
/-- xs * n, a list of one's own -/
theorem el_rep {n : Int} (h : EvR ta σ B (.lst ds)) (hi : EvR tb σ B (.int n)) (hn : 0 ≤ n ∧ n ≤ 1000) (hd : ds.length ≤ 10) : EvL (tOp rRep ta tb) σ B (List.replicate n.toNat ds).flatten := fun H1 e Q q =>
  h H1 e _ fun v B2 H2 n1 rv => (hi.mono n1.ext) H2 n1.sub _ fun w B3 H3 n2 rw => by
    cases rw
    obtain ⟨a, vs, rfl, hp, ra⟩ := rv.lst_inv
    have N := n1.trans n2
    refine ⟨a, n, vs, rfl, rfl, N.sub _ _ (n2.ext _ _ hp), by omega, by omega, ?_, fun l hl => ?_⟩
    · have h1 : vs.length * n.toNat ≤ 10 * 1000 := Nat.mul_le_mul (by rw [ra.len]; exact hd) (by omega)
      rw [sizeLine_eq]
      omega
    · exact q l _ B3 _ ⟨N.ext, Evl.Ex.mut N.sub (fresh_back N.sub hl), Evl.Ex.mut N.heap (fresh_back N.heap hl), N.fresh⟩ ⟨fresh_back N.heap hl, fresh_back N.sub hl, upd_same⟩ ((ra.mono n2.ext).flat n.toNat)
/-- a tuple of two lists of one's own -/
theorem ep_tup {x : List Int × List Int} {H : Hp} {Q : VK} (e : Ex B H) (h1 : EvL ta σ B (x.1.map .int)) (h2 : EvL tb σ B (x.2.map .int)) (q : ∀ (t : Addr) (e : Pr) B2 H2, New B H B2 H2 → PrOk H B2 H2 (.ref t) e → e.p ≠ e.q → (e.r, e.c) = x → Q (.ref t) H2) :
    tTup (tCons ta (tCons tb tNil)) σ H Q := by
  refine h1 H e _ fun p us B4 H4 n4 o4 ra4 => ?_
  have eus := ra4.ints_inv
  subst eus
  have h2' : EvL tb σ B4 (x.2.map .int) := fun H1 e1 Q q => h2 H1 (n4.ext.trans e1) Q fun p vs B2 H2 n o ra => q p vs (join B4 B2) H2 ⟨join_l, join_sub (e1.trans n.heap) n.sub, n.heap, fun p h1 h2 => by
    unfold join
    rw [h1]
    exact n.fresh p (fresh_back n4.ext h1) h2⟩ ⟨o.h0, by
    unfold join
    have : B4 p = none := fresh_back e1 o.h0
    rw [this]
    exact o.b, o.h⟩ (ra.mono (join_r (e1.trans n.heap) n.sub))
  refine h2' H4 n4.sub _ fun q' us B5 H5 n5 o5 ra5 => ?_
  have eus := ra5.ints_inv
  subst eus
  refine ⟨sz_of (by simp), fun t ht => ?_⟩
  have n45 := n4.trans n5
  have n6 : New B H (upd B5 t (.tup [.ref p, .ref q'])) (upd H5 t (.tup [.ref p, .ref q'])) := n45.trans (New.one n5.sub ht)
  have pt : p ≠ t := fun z => by subst z; rw [(o4.step n5).h] at ht; cases ht
  have qt : q' ≠ t := fun z => by subst z; rw [o5.h] at ht; cases ht
  have pq : p ≠ q' := fun z => by have := o5.h0; rw [← z, o4.h] at this; cases this
  exact q t ⟨p, q', x.1, x.2⟩ _ _ n6 ⟨⟨t, rfl, upd_same⟩, ⟨o4.h0, by rw [upd_ne pt]; exact (o4.step n5).b, by rw [upd_ne pt]; exact (o4.step n5).h⟩, ⟨fresh_back n4.heap o5.h0, by rw [upd_ne qt]; exact o5.b, by rw [upd_ne qt]; exact o5.h⟩⟩ pq rfl
end
section
variable {K : PySem.W.Frag} {σ : L2.St} {B B' H H0 : Hp} {ta tb te : TE} {tl tk : TA} {ds xs zs : List Dt} {D : Ends}
theorem PrOk.back {H1 : Hp} {v : V} {e : Pr} (h : Ex H0 H1) (o : PrOk H1 B H v e) : PrOk H0 B H v e := ⟨o.t, ⟨fresh_back h o.p.h0, o.p.b, o.p.h⟩, ⟨fresh_back h o.q.h0, o.q.b, o.q.h⟩⟩
theorem PrOk.data {t : Addr} {e : Pr} (e0 : Ex B H) (o : PrOk H0 B H (.ref t) e) : R (gB B H [e.p, e.q]) (.ref t) (eSet e.r e.c) := by
  have h := Prs.data (as := [e.p, e.q]) e0 (es := [e]) (fun _ h => h) (fun a h => by
    rcases List.mem_cons.mp h with z | z
    · rw [z]; exact o.p.b
    · rw [List.mem_singleton.mp z]; exact o.q.b) (.cons o .nil)
  cases h with | cons a b => exact a
theorem PrOk.outs {t : Addr} {e : Pr} (o : PrOk H0 B H (.ref t) e) : ∀ a ∈ [e.p, e.q], H0 a = none ∧ B a = none := fun a h => by
  rcases List.mem_cons.mp h with z | z
  · rw [z]; exact ⟨o.p.h0, o.p.b⟩
  · rw [List.mem_singleton.mp z]; exact ⟨o.q.h0, o.q.b⟩
/-- such a call, where no error is due -/
theorem ev_lsK {C : Addr} {g : List Dt → Option (List Int × List Int) → Prop} {gV : List V → List V → List V} {gD : List Dt → List Dt → List Dt} {x : List Int × List Int} (h : EvRA tl σ B xs) (hk : EvRA tk σ B zs) (rel : ∀ B vs ws as bs, RA B vs as → RA B ws bs → as.length = xs.length → bs.length = zs.length → RA B (gV vs ws) (gD as bs)) (hg : g (gD xs zs) (some x)) :
    EvR (tCallK (spS C g) gV (fun _ _ _ => False) tl tk) σ B (eSet x.1 x.2) := fun H1 e Q q => h H1 e _ fun vs B1 H2 n ra => (hk.mono n.ext) H2 n.sub _ fun ws B2 H3 n2 rb =>
  ⟨B2, _, some x, n2.sub, rel B2 vs ws xs zs (ra.mono n2.ext) rb rfl rfl, hg, fun y hy t e' B3 H4 n3 ok ne hx => by
    cases hy
    subst hx
    exact q _ _ H4 (((n.trans n2).trans n3).giveA (ok.back (n.trans n2).heap).outs) (ok.data n3.sub), fun z => nomatch z⟩
/-- isinstance(e, c) in the suite -/
theorem ec_isE {a C : Addr} {n : Nat} {c : V} {cv : Value} {b : Bool} (h : σ[n]? = some (some (.ref a))) (i : ExcC K C) (hcv : ∀ u, RelV c u → u = cv) (hk : PySem.W.kitOne K (.ref C) cv = some b) : EvC (tB (tCB (rIsEx K a (.ref C) none) (tCons (tVar n) (tCons (tC c) tNil)))) σ B b := fun H1 e Q q =>
  ⟨_, h, C, rfl, rfl, i, c, cv, b, rfl, hcv, hk, b, rfl, q H1 (Evl.Ex.refl _)⟩
/-- a promise: a tuple of two lists of one's own, or the text -/
def spO (s : Str) (g : List Dt → Option (List Int × List Int) → Prop) : Sp := fun vs H Q _ => ∃ B as o, Ex B H ∧ RA B vs as ∧ g as o ∧
  (∀ x, o = some x → ∀ (t : Addr) (e : Pr) B2 H2, New B H B2 H2 → PrOk H B2 H2 (.ref t) e → e.p ≠ e.q → (e.r, e.c) = x → Q (.ref t) H2) ∧ (o = none → ∀ H2, Ex H H2 → Q (.str s) H2)
end
end U

namespace U
inductive Wk (F : List Fa) : Nat → Int → Int → Prop
  | nil (v : Int) : Wk F 0 v 0
  | cons {f : Fa} {k : Nat} {s : Int} : f ∈ F → Wk F k f.j s → Wk F (k + 1) f.i (f.l + s)
def FOk (n : Nat) (F : List Fa) : Prop := ∀ f ∈ F, 0 ≤ f.i ∧ f.i < n ∧ 0 ≤ f.j ∧ f.j < n ∧ -6 ≤ f.l ∧ f.l ≤ 6
structure NoR (F : List Fa) : Prop where
  c1 : ∀ f ∈ F, f.i = f.j → f.l ≤ 0
  c2 : ∀ f ∈ F, ∀ g ∈ F, f.j = g.i → g.j = f.i → f.l + g.l ≤ 0
  c3 : ∀ f ∈ F, ∀ g ∈ F, ∀ h ∈ F, f.j = g.i → g.j = h.i → h.j = f.i → f.l + g.l + h.l ≤ 0
theorem Wk.inv {F : List Fa} {k : Nat} {v s : Int} (w : Wk F (k + 1) v s) : ∃ f s1, f ∈ F ∧ v = f.i ∧ s = f.l + s1 ∧ Wk F k f.j s1 := by
  cases w with
  | cons h w => exact ⟨_, _, h, rfl, rfl, w⟩
theorem wk_short {n : Nat} {F : List Fa} (ok : FOk n F) (h1 : 1 ≤ n) (h3 : n ≤ 3) (nr : NoR F) : ∀ (m k : Nat) (v s : Int), k ≤ m → Wk F k v s → ∃ k' s', k' ≤ n - 1 ∧ s ≤ s' ∧ Wk F k' v s'
  | 0, k, v, s, hk, w => ⟨k, s, by omega, Int.le_refl _, w⟩
  | m + 1, k, v, s, hk, w => by
    have again : ∀ (k2 : Nat) (s2 : Int), k2 ≤ m → s ≤ s2 → Wk F k2 v s2 → ∃ k' s', k' ≤ n - 1 ∧ s ≤ s' ∧ Wk F k' v s' := fun k2 s2 h2 hs w2 => by
      obtain ⟨k', s', a, b, c⟩ := wk_short ok h1 h3 nr m k2 v s2 h2 w2
      exact ⟨k', s', a, by omega, c⟩
    by_cases hs : k ≤ n - 1
    · exact ⟨k, s, hs, Int.le_refl _, w⟩
    obtain ⟨k1, rfl⟩ : ∃ k1, k = k1 + 1 := ⟨k - 1, by omega⟩
    obtain ⟨f, s1, hf, rfl, rfl, w1⟩ := w.inv
    have of := ok f hf
    by_cases e1 : f.i = f.j
    · have := nr.c1 f hf e1
      exact again k1 s1 (by omega) (by omega) (e1 ▸ w1)
    have hn1 : n ≠ 1 := fun z => e1 (by omega)
    obtain ⟨k2, rfl⟩ : ∃ k2, k1 = k2 + 1 := ⟨k1 - 1, by omega⟩
    obtain ⟨g, s2, hg, eg, rfl, w2⟩ := w1.inv
    have og := ok g hg
    by_cases e2 : g.i = g.j
    · have := nr.c1 g hg e2
      exact again (k2 + 1) (f.l + s2) (by omega) (by omega) (.cons hf (by rw [eg, e2]; exact w2))
    by_cases e3 : f.i = g.j
    · have := nr.c2 f hf g hg eg e3.symm
      exact again k2 s2 (by omega) (by omega) (e3 ▸ w2)
    have hn2 : n ≠ 2 := fun z => by omega
    obtain ⟨k3, rfl⟩ : ∃ k3, k2 = k3 + 1 := ⟨k2 - 1, by omega⟩
    obtain ⟨h, s3, hh, eh, rfl, w3⟩ := w2.inv
    have oh := ok h hh
    by_cases e4 : h.i = h.j
    · have := nr.c1 h hh e4
      exact again (k3 + 2) (f.l + (g.l + s3)) (by omega) (by omega) (.cons hf (by rw [eg]; exact .cons hg (by rw [eh, e4]; exact w3)))
    by_cases e5 : g.i = h.j
    · have := nr.c2 g hg h hh eh e5.symm
      exact again (k3 + 1) (f.l + s3) (by omega) (by omega) (.cons hf (by rw [eg, e5]; exact w3))
    by_cases e6 : f.i = h.j
    · have := nr.c3 f hf g hg h hh eg eh e6.symm
      exact again k3 s3 (by omega) (by omega) (e6 ▸ w3)
    exfalso
    omega
def vl (v : List Int) (x : Int) : Int := v.getD x.toNat 0
/-- one fact looked at -/
def stp (v : List Int) (f : Fa) : List Int := v.set f.i.toNat (if vl v f.j + f.l < vl v f.i then vl v f.i else vl v f.j + f.l)
def rnds (n : Nat) (F : List Fa) : Nat → List Int
  | 0 => List.replicate n 0
  | k + 1 => F.foldl stp (rnds n F k)
theorem stp_len (v : List Int) (f : Fa) : (stp v f).length = v.length := by unfold stp; rw [List.length_set]
theorem vl_set {v : List Int} {i : Int} {z x : Int} (h0 : 0 ≤ i) (h1 : i < v.length) (hx : 0 ≤ x) : vl (v.set i.toNat z) x = if x = i then z else vl v x := by
  unfold vl
  rw [List.getD_eq_getElem?_getD, List.getD_eq_getElem?_getD, List.getElem?_set]
  by_cases h : x = i
  · subst h
    rw [if_pos rfl, if_pos (by omega), if_pos rfl]; rfl
  · rw [if_neg (by omega), if_neg h]
theorem vl_stp {v : List Int} {f : Fa} {x : Int} (h0 : 0 ≤ f.i) (h1 : f.i < v.length) (hx : 0 ≤ x) : vl (stp v f) x = if x = f.i then (if vl v f.j + f.l < vl v f.i then vl v f.i else vl v f.j + f.l) else vl v x := vl_set h0 h1 hx
theorem stp_mono {v : List Int} {f : Fa} {x : Int} (h0 : 0 ≤ f.i) (h1 : f.i < v.length) (hx : 0 ≤ x) : vl v x ≤ vl (stp v f) x := by
  rw [vl_stp h0 h1 hx]
  split
  · rename_i e
    rw [e]
    split <;> omega
  · omega
section
variable {n : Nat} {F : List Fa}
theorem fold_len : ∀ (L : List Fa) (v : List Int), (L.foldl stp v).length = v.length
  | [], _ => rfl
  | f :: L, v => by rw [List.foldl_cons, fold_len L, stp_len]
theorem fold_mono (ok : FOk n F) : ∀ (L : List Fa) (v : List Int), (∀ f ∈ L, f ∈ F) → v.length = n → ∀ x : Int, 0 ≤ x → vl v x ≤ vl (L.foldl stp v) x
  | [], _, _, _, _, _ => Int.le_refl _
  | f :: L, v, hL, hv, x, hx => by
    have of := ok f (hL f List.mem_cons_self)
    have h1 := stp_mono (v := v) (f := f) (x := x) of.1 (by omega) hx
    have h2 := fold_mono ok L (stp v f) (fun g hg => hL g (List.mem_cons_of_mem _ hg)) (by rw [stp_len]; exact hv) x hx
    rw [List.foldl_cons]
    omega
theorem fold_ge (ok : FOk n F) : ∀ (L : List Fa) (v : List Int), (∀ f ∈ L, f ∈ F) → v.length = n → ∀ f ∈ L, vl v f.j + f.l ≤ vl (L.foldl stp v) f.i
  | [], _, _, _, _, h => by cases h
  | g :: L, v, hL, hv, f, hf => by
    have og := ok g (hL g List.mem_cons_self)
    have hL' : ∀ h ∈ L, h ∈ F := fun h hh => hL h (List.mem_cons_of_mem _ hh)
    have of := ok f (hL f hf)
    rw [List.foldl_cons]
    rcases List.mem_cons.mp hf with e | hf
    · subst e
      have h1 := fold_mono ok L (stp v f) hL' (by rw [stp_len]; exact hv) f.i of.1
      have h2 : vl v f.j + f.l ≤ vl (stp v f) f.i := by
        rw [vl_stp of.1 (by omega) of.1, if_pos rfl]
        split <;> omega
      omega
    · have h1 := fold_ge ok L (stp v g) hL' (by rw [stp_len]; exact hv) f hf
      have h2 := stp_mono (v := v) (f := g) (x := f.j) og.1 (by omega) of.2.2.1
      omega
theorem fold_wk (ok : FOk n F) : ∀ (L : List Fa) (v : List Int), (∀ f ∈ L, f ∈ F) → v.length = n → (∀ x : Int, 0 ≤ x → x < n → ∃ k, Wk F k x (vl v x)) → ∀ x : Int, 0 ≤ x → x < n → ∃ k, Wk F k x (vl (L.foldl stp v) x)
  | [], _, _, _, h => h
  | f :: L, v, hL, hv, h => by
    rw [List.foldl_cons]
    have fm := hL f List.mem_cons_self
    have of := ok f fm
    refine fold_wk ok L (stp v f) (fun g hg => hL g (List.mem_cons_of_mem _ hg)) (by rw [stp_len]; exact hv) fun x h0 h1 => ?_
    rw [vl_stp of.1 (by omega) h0]
    by_cases e : x = f.i
    · rw [if_pos e]
      split
      · rw [← e]; exact h x h0 h1
      · obtain ⟨k, w⟩ := h f.j of.2.2.1 of.2.2.2.1
        refine ⟨k + 1, ?_⟩
        rw [e, Int.add_comm]
        exact .cons fm w
    · rw [if_neg e]; exact h x h0 h1
theorem vl_zero (x : Int) : vl (List.replicate n 0) x = 0 := by
  unfold vl
  rw [List.getD_eq_getElem?_getD, List.getElem?_replicate]
  split <;> rfl
theorem rnds_ok (ok : FOk n F) : ∀ r, (rnds n F r).length = n ∧ (∀ x : Int, 0 ≤ x → x < n → ∃ k, Wk F k x (vl (rnds n F r) x)) ∧ ∀ (k : Nat) (x s : Int), 0 ≤ x → k ≤ r → Wk F k x s → s ≤ vl (rnds n F r) x
  | 0 => ⟨by rw [rnds, List.length_replicate], fun x _ _ => ⟨0, by rw [rnds, vl_zero]; exact .nil x⟩, fun k x s _ hk w => by
    have e : k = 0 := by omega
    subst e
    cases w
    rw [rnds, vl_zero]; omega⟩
  | r + 1 => by
    obtain ⟨h1, h2, h3⟩ := rnds_ok ok r
    have hF : ∀ f ∈ F, f ∈ F := fun _ h => h
    refine ⟨by rw [rnds, fold_len]; exact h1, fold_wk ok F _ hF h1 h2, fun k x s hx hk w => ?_⟩
    rw [rnds]
    cases k with
    | zero =>
      have a := h3 0 x s hx (by omega) w
      have b := fold_mono ok F (rnds n F r) hF h1 x hx
      omega
    | succ k =>
      obtain ⟨f, s1, hf, rfl, rfl, w1⟩ := w.inv
      have of := ok f hf
      have a := h3 k f.j s1 of.2.2.1 (by omega) w1
      have b := fold_ge ok F (rnds n F r) hF h1 f hf
      omega
theorem wk_le (ok : FOk n F) : ∀ {k : Nat} {v s : Int}, Wk F k v s → s ≤ 6 * k
  | _, _, _, .nil _ => by omega
  | _, _, _, .cons (k := k) (s := s) h w => by
    have := wk_le ok w
    have := ok _ h
    omega
/-- a row keeps the facts -/
def Kp (F : List Fa) (c : List Int) : Prop := ∀ f ∈ F, vl c f.j + f.l ≤ vl c f.i
theorem wk_kp {c : List Int} (kp : Kp F c) (pos : ∀ x, 0 ≤ vl c x) : ∀ {k : Nat} {v s : Int}, Wk F k v s → s ≤ vl c v
  | _, _, _, .nil v => pos v
  | _, _, _, .cons h w => by
    have h1 := wk_kp kp pos w
    have h2 := kp _ h
    omega
def bf (n : Nat) (F : List Fa) : List Int := rnds n F (n - 1)
/-- what the least row is -/
structure Best (n : Nat) (F : List Fa) (b : List Int) : Prop where
  len : b.length = n
  kp : Kp F b
  lo : ∀ x, 0 ≤ vl b x
  hi : ∀ x, vl b x ≤ 6 * ((n : Int) - 1)
  least : ∀ c : List Int, Kp F c → (∀ x, 0 ≤ vl c x) → ∀ x, vl b x ≤ vl c x
  zero : ∃ i : Nat, b[i]? = some 0
theorem vl_out {b : List Int} {x : Int} (h : (b.length : Int) ≤ x) : vl b x = 0 := by
  unfold vl
  rw [List.getD_eq_getElem?_getD, List.getElem?_eq_none (by omega)]; rfl
theorem vl_neg {b : List Int} {x : Int} (h : x ≤ 0) : vl b x = vl b 0 := by
  unfold vl
  rw [show x.toNat = (0 : Int).toNat by omega]
theorem best (ok : FOk n F) (h1 : 1 ≤ n) (h3 : n ≤ 3) (nr : NoR F) : Best n F (bf n F) := by
  obtain ⟨l1, l2, l3⟩ := rnds_ok ok (n - 1)
  have lo0 : ∀ x : Int, 0 ≤ x → 0 ≤ vl (bf n F) x := fun x hx => l3 0 x 0 hx (by omega) (.nil x)
  have lo : ∀ x, 0 ≤ vl (bf n F) x := fun x => by
    by_cases h : 0 ≤ x
    · exact lo0 x h
    · rw [vl_neg (by omega)]; exact lo0 0 (by omega)
  have kp : Kp F (bf n F) := fun f hf => by
    have of := ok f hf
    obtain ⟨k, w⟩ := l2 f.j of.2.2.1 of.2.2.2.1
    obtain ⟨k', s', a, b, w'⟩ := wk_short ok h1 h3 nr (k + 1) (k + 1) f.i _ (Nat.le_refl _) (Wk.cons hf w)
    have := l3 k' f.i s' of.1 a w'
    unfold bf
    omega
  have least : ∀ c : List Int, Kp F c → (∀ x, 0 ≤ vl c x) → ∀ x, vl (bf n F) x ≤ vl c x := fun c kc pc x => by
    have main : ∀ x : Int, 0 ≤ x → vl (bf n F) x ≤ vl c x := fun x h0 => by
      by_cases hx : x < n
      · obtain ⟨k, w⟩ := l2 x h0 hx
        exact wk_kp kc pc w
      · rw [vl_out (by unfold bf; omega)]; exact pc x
    by_cases h : 0 ≤ x
    · exact main x h
    · rw [vl_neg (by omega), vl_neg (b := c) (by omega)]; exact main 0 (by omega)
  refine ⟨l1, kp, lo, fun x => ?_, least, ?_⟩
  · have main : ∀ x : Int, 0 ≤ x → vl (bf n F) x ≤ 6 * ((n : Int) - 1) := fun x h0 => by
      by_cases hx : x < n
      · obtain ⟨k, w⟩ := l2 x h0 hx
        obtain ⟨k', s', a, b, w'⟩ := wk_short ok h1 h3 nr k k x _ (Nat.le_refl _) w
        have := wk_le ok w'
        unfold bf
        omega
      · rw [vl_out (by unfold bf; omega)]; omega
    by_cases h : 0 ≤ x
    · exact main x h
    · rw [vl_neg (by omega)]; exact main 0 (by omega)
  · refine Classical.byContradiction fun hno => ?_
    have all1 : ∀ x : Int, 0 ≤ x → x < n → 1 ≤ vl (bf n F) x := fun x h0 hx => by
      have a := lo x
      refine Classical.byContradiction fun z => hno ⟨x.toNat, ?_⟩
      have e : vl (bf n F) x = 0 := by omega
      unfold vl at e
      rw [List.getD_eq_getElem?_getD, List.getElem?_eq_getElem (by unfold bf; omega)] at e
      rw [List.getElem?_eq_getElem (by unfold bf; omega)]
      exact congrArg some e
    have vm : ∀ x : Int, 0 ≤ x → x < n → vl ((bf n F).map (· - 1)) x = vl (bf n F) x - 1 := fun x h0 hx => by
      unfold vl
      rw [List.getD_eq_getElem?_getD, List.getD_eq_getElem?_getD, List.getElem?_map, List.getElem?_eq_getElem (by unfold bf; omega)]; rfl
    have c0 := least ((bf n F).map (· - 1)) (fun f hf => by
      have of := ok f hf
      have := kp f hf
      rw [vm f.j of.2.2.1 of.2.2.2.1, vm f.i of.1 of.2.1]
      omega) (fun x => by
      have main : ∀ x : Int, 0 ≤ x → 0 ≤ vl ((bf n F).map (· - 1)) x := fun x h0 => by
        by_cases hx : x < n
        · rw [vm x h0 hx]; have := all1 x h0 hx; omega
        · rw [vl_out (by rw [List.length_map]; unfold bf; omega)]; omega
      by_cases h : 0 ≤ x
      · exact main x h
      · rw [vl_neg (by omega)]; exact main 0 (by omega)) 0
    rw [vm 0 (by omega) (by omega)] at c0
    omega
end
/-! ### all rows, one after another -/
abbrev rI' (r : List Nat) : List Int := r.map fun k : Nat => (k : Int)
def lsts (M : Nat) : Nat → List (List Nat)
  | 0 => [[]]
  | k + 1 => (lsts M k).flatMap fun row => (List.range (M + 1)).map fun v => row ++ [v]
def ltR : List Nat → List Nat → Bool
  | x :: xs, y :: ys => decide (x < y) || (decide (x = y) && ltR xs ys)
  | _, _ => false
theorem lsts_len {M : Nat} : ∀ k, ∀ r ∈ lsts M k, r.length = k
  | 0, r, h => by rw [List.mem_singleton.mp h]; rfl
  | k + 1, r, h => by
    obtain ⟨q, hq, h⟩ := List.mem_flatMap.mp h
    obtain ⟨v, _, rfl⟩ := List.mem_map.mp h
    rw [List.length_append, lsts_len k q hq]; rfl
theorem lsts_le {M : Nat} : ∀ k, ∀ r ∈ lsts M k, ∀ x ∈ r, x ≤ M
  | 0, r, h, x, hx => by rw [List.mem_singleton.mp h] at hx; cases hx
  | k + 1, r, h, x, hx => by
    obtain ⟨q, hq, h⟩ := List.mem_flatMap.mp h
    obtain ⟨v, hv, rfl⟩ := List.mem_map.mp h
    rcases List.mem_append.mp hx with hx | hx
    · exact lsts_le k q hq x hx
    · rw [List.mem_singleton.mp hx]; have := List.mem_range.mp hv; omega
theorem lsts_many (M : Nat) : ∀ k, (lsts M k).length = (M + 1) ^ k
  | 0 => rfl
  | k + 1 => by
    rw [lsts, List.length_flatMap]
    have : ∀ l : List (List Nat), (l.map fun a => ((List.range (M + 1)).map fun v => a ++ [v]).length).sum = l.length * (M + 1) := fun l => by
      induction l with
      | nil => simp
      | cons a l ih => rw [List.map_cons, List.sum_cons, ih, List.length_map, List.length_range, List.length_cons, Nat.succ_mul, Nat.add_comm]
    rw [this, lsts_many M k, Nat.pow_succ]
theorem lsts_mem {M : Nat} : ∀ (k : Nat) (r : List Nat), r.length = k → (∀ x ∈ r, x ≤ M) → r ∈ lsts M k
  | 0, r, h, _ => by rw [List.length_eq_zero_iff.mp h]; exact List.mem_singleton.mpr rfl
  | k + 1, r, h, hx => by
    have hne : r ≠ [] := fun z => by rw [z] at h; cases h
    refine List.mem_flatMap.mpr ⟨r.dropLast, lsts_mem k _ (by rw [List.length_dropLast]; omega) fun x hm => hx x ((List.dropLast_sublist r).subset hm), List.mem_map.mpr ⟨r.getLast hne, List.mem_range.mpr (by have := hx _ (List.getLast_mem hne); omega), List.dropLast_concat_getLast hne⟩⟩
theorem ltR_snoc : ∀ {a b : List Nat} {x y : Nat}, a.length = b.length → (ltR a b = true ∨ (a = b ∧ x < y)) → ltR (a ++ [x]) (b ++ [y]) = true
  | [], [], x, y, _, h => by
    rcases h with h | h
    · simp [ltR] at h
    · simp [ltR, h.2]
  | [], _ :: _, _, _, h, _ => by cases h
  | _ :: _, [], _, _, h, _ => by cases h
  | p :: a, q :: b, x, y, hl, h => by
    rw [List.cons_append, List.cons_append, ltR]
    rcases h with h | ⟨h, hxy⟩
    · rw [ltR, Bool.or_eq_true, Bool.and_eq_true, decide_eq_true_eq, decide_eq_true_eq] at h
      rcases h with h | ⟨h, k⟩
      · rw [decide_eq_true h]; rfl
      · rw [decide_eq_true h, ltR_snoc (by simpa using hl) (.inl k)]; simp
    · have e := List.cons.inj h
      rw [decide_eq_true e.1, ltR_snoc (by simpa using hl) (.inr ⟨e.2, hxy⟩)]; simp
theorem lsts_pw (M : Nat) : ∀ k, (lsts M k).Pairwise fun a b => ltR a b = true
  | 0 => by simp [lsts]
  | k + 1 => by
    have ih := lsts_pw M k
    have hl := lsts_len (M := M) k
    rw [lsts]
    generalize lsts M k = l at ih hl
    induction l with
    | nil => exact .nil
    | cons a l ih2 =>
      rw [List.flatMap_cons]
      have p := List.pairwise_cons.mp ih
      refine List.pairwise_append.mpr ⟨List.pairwise_map.mpr ?_, ih2 p.2 (fun r h => hl r (List.mem_cons_of_mem _ h)), fun x hx y hy => ?_⟩
      · exact List.pairwise_lt_range.imp fun h => ltR_snoc rfl (.inr ⟨rfl, h⟩)
      · obtain ⟨v, _, rfl⟩ := List.mem_map.mp hx
        obtain ⟨b, hb, hy⟩ := List.mem_flatMap.mp hy
        obtain ⟨u, _, rfl⟩ := List.mem_map.mp hy
        exact ltR_snoc (by rw [hl a List.mem_cons_self, hl b (List.mem_cons_of_mem _ hb)]) (.inl (p.1 b hb))
theorem ltR_no : ∀ {a b : List Nat}, (∀ i : Nat, b.getD i 0 ≤ a.getD i 0) → ltR a b = false
  | [], _, _ => by simp [ltR]
  | _ :: _, [], _ => by simp [ltR]
  | x :: a, y :: b, h => by
    have h0 : y ≤ x := h 0
    have ht : ∀ i : Nat, b.getD i 0 ≤ a.getD i 0 := fun i => h (i + 1)
    rw [ltR, ltR_no ht, decide_eq_false (by omega)]
    simp
theorem vl_rI (r : List Nat) (x : Int) : vl (rI' r) x = (r.getD x.toNat 0 : Nat) := by
  unfold vl
  rw [List.getD_eq_getElem?_getD, List.getD_eq_getElem?_getD, List.getElem?_map]
  cases r[x.toNat]? <;> rfl
instance {F : List Fa} {c : List Int} : Decidable (Kp F c) := by unfold Kp; infer_instance
/-- the rows that the law goes through -/
def cand (n : Nat) (F : List Fa) : List (List Nat) := ((lsts (6 * (n - 1)) n).filter fun r => r.contains 0).filter fun r => decide (Kp F (rI' r))
theorem cand_none {n : Nat} {F : List Fa} (h : ∀ c : List Int, ¬ Kp F c) : cand n F = [] :=
  List.filter_eq_nil_iff.mpr fun r _ z => h _ (of_decide_eq_true z)
theorem cand_first {n : Nat} {F : List Fa} (ok : FOk n F) (h1 : 1 ≤ n) (h3 : n ≤ 3) (nr : NoR F) : ∃ b rest, cand n F = b :: rest ∧ rI' b = bf n F := by
  have B := best ok h1 h3 nr
  have eb : rI' ((bf n F).map Int.toNat) = bf n F := by
    rw [rI', List.map_map]
    conv => rhs; rw [← List.map_id (bf n F)]
    refine List.map_congr_left fun x hx => ?_
    obtain ⟨i, hi⟩ := List.mem_iff_getElem?.mp hx
    have h := B.lo (i : Int)
    unfold vl at h
    rw [Int.toNat_natCast, List.getD_eq_getElem?_getD, hi] at h
    have h : 0 ≤ x := h
    show ((x.toNat : Nat) : Int) = x
    omega
  have hmem : (bf n F).map Int.toNat ∈ cand n F := by
    refine List.mem_filter.mpr ⟨List.mem_filter.mpr ⟨lsts_mem n _ (by rw [List.length_map]; exact B.len) fun x hx => ?_, ?_⟩, ?_⟩
    · obtain ⟨y, hy, rfl⟩ := List.mem_map.mp hx
      obtain ⟨i, hi⟩ := List.mem_iff_getElem?.mp hy
      have h := B.hi (i : Int)
      unfold vl at h
      rw [Int.toNat_natCast, List.getD_eq_getElem?_getD, hi] at h
      have h : y ≤ 6 * ((n : Int) - 1) := h
      omega
    · rw [List.contains_iff_mem]
      obtain ⟨i, hi⟩ := B.zero
      exact List.mem_map.mpr ⟨0, List.mem_of_getElem? hi, rfl⟩
    · rw [eb]; exact decide_eq_true B.kp
  have pw : (cand n F).Pairwise fun a b => ltR a b = true := ((lsts_pw (6 * (n - 1)) n).filter _).filter _
  cases e : cand n F with
  | nil => rw [e] at hmem; cases hmem
  | cons x rest =>
    refine ⟨x, rest, rfl, ?_⟩
    rw [e] at hmem pw
    rcases List.mem_cons.mp hmem with h | h
    · rw [← h]; exact eb
    · exfalso
      have lt := (List.pairwise_cons.mp pw).1 _ h
      have xk : Kp F (rI' x) := by
        have : x ∈ cand n F := by rw [e]; exact List.mem_cons_self
        exact of_decide_eq_true (List.mem_filter.mp this).2
      have le := B.least (rI' x) xk (fun y => by rw [vl_rI]; omega)
      rw [ltR_no] at lt
      · cases lt
      · intro i
        have h2 := le (i : Int)
        rw [vl_rI, Int.toNat_natCast, ← eb, vl_rI, Int.toNat_natCast] at h2
        omega
end U

namespace U
open PySem L2
open Evl (Ex fresh_back sz_of sz_lt sq_of st_of rLenS rListS)
theorem hu65 {k : Nat} {A : Around} (r : Room k A) : A.units + 65 < cLine := by have := r.un; omega
theorem k_notinD {X : Cx} {K : PySem.W.Frag} (h : X.K = K) (hu : X.A.units + 65 < cLine) : OpR X (compareOp .NotIn) (rNotInD K) := h ▸ op_notInD hu
theorem any_py (f : PyData → Bool) : ∀ ds : List Dt, (pyAll ds).any f = ds.any fun z => f z.py
  | [] => by simp [pyAll]
  | d :: ds => by rw [pyAll, List.any_cons, List.any_cons, any_py f ds]
theorem rv_notinD {K : PySem.W.Frag} {x : Dt} {ds : List Dt} (hx : SeqAt.shaped x.py = true) (hd : SeqAt.shaped (Dt.lst ds).py = true) : RV (rNotInD K) x (.lst ds) (.bl (!ds.any fun z => PyData.eqv z.py x.py)) := fun B H1 v w e r1 r2 Q q => by
  have h2 := (r2.mono e).dp (K := K) (shaped_cln hd)
  rw [Dt.py] at h2
  refine ⟨x.py, pyAll ds, (r1.mono e).dp (shaped_cln hx), h2, hx, by rw [Dt.py] at hd; exact hd, ?_⟩
  rw [any_py]
  exact q _ B H1 (New.refl e) (.bl _)
theorem eqv_set (a b c d : List Int) : PyData.eqv (eSet a b).py (eSet c d).py = (decide (a = c) && decide (b = d)) := by
  have e1 : (eSet a b).py = .tuple [(eI a).py, (eI b).py] := by simp only [Dt.py, pyAll]
  have e2 : (eSet c d).py = .tuple [(eI c).py, (eI d).py] := by simp only [Dt.py, pyAll]
  rw [e1, e2]
  simp only [PyData.eqv, PyData.eqvAll]
  rw [eqv_eI, eqv_eI, Bool.and_true]
theorem sets_lay : ∀ (l : List (List Int × List Int)), PyData.canLayAll0 (pyAll (l.map fun x => eSet x.1 x.2)) = true ∧ depAll (l.map fun x => eSet x.1 x.2) ≤ 2
  | [] => ⟨by simp [pyAll, PyData.canLayAll0], by simp [depAll]⟩
  | x :: l => by
    obtain ⟨h1, h2⟩ := sets_lay l
    refine ⟨?_, ?_⟩
    · rw [List.map_cons, pyAll, PyData.canLayAll0, h1, Dt.py, PyData.canLay0, pyAll, pyAll, pyAll, PyData.canLayAll0, PyData.canLayAll0, PyData.canLayAll0, Dt.py, Dt.py, PyData.canLay0, PyData.canLay0, canLay_ints, canLay_ints]; rfl
    · rw [List.map_cons, depAll, Dt.dep, depAll, depAll, depAll, Dt.dep, Dt.dep, depAll_ints, depAll_ints]; omega
theorem shaped_sets {l : List (List Int × List Int)} : SeqAt.shaped (Dt.lst (l.map fun x => eSet x.1 x.2)).py = true := by
  obtain ⟨h1, h2⟩ := sets_lay l
  unfold SeqAt.shaped
  rw [dep_py, Dt.dep, Dt.py, PyData.canLay0, h1]
  simp only [Bool.true_and, decide_eq_true_eq]
  omega
theorem shaped_set {a b : List Int} : SeqAt.shaped (eSet a b).py = true := by
  unfold SeqAt.shaped
  rw [dep_py, Dt.dep, depAll, depAll, depAll, Dt.dep, Dt.dep, depAll_ints, depAll_ints, Dt.py, PyData.canLay0, pyAll, pyAll, pyAll, PyData.canLayAll0, PyData.canLayAll0, PyData.canLayAll0, Dt.py, Dt.py, PyData.canLay0, PyData.canLay0, canLay_ints, canLay_ints]
  rfl
theorem toks_no : ∀ (a b : List Int), a.length = b.length → (∀ i : Nat, b.getD i 0 ≤ a.getD i 0) → PyProof.Rows.lexLt PyProof.Rows.itemOrd (PySem.W.keyToksAll (pyAll (a.map Dt.int))) (PySem.W.keyToksAll (pyAll (b.map Dt.int))) = false
  | [], [], _, _ => by
    have h := PySem.W.lex_pre (PySem.W.keyToksAll (pyAll (([] : List Int).map Dt.int))) [] []
    rw [List.append_nil] at h
    rw [h]; rfl
  | [], _ :: _, h, _ => by cases h
  | _ :: _, [], h, _ => by cases h
  | x :: a, y :: b, h, hp => by
    have hal : PySem.W.alike (Dt.int x).py (Dt.int y).py = true := by rw [Dt.py, Dt.py, PySem.W.alike]
    have h0 : y ≤ x := hp 0
    have ht : ∀ i : Nat, b.getD i 0 ≤ a.getD i 0 := fun i => hp (i + 1)
    rw [List.map_cons, List.map_cons, pyAll, pyAll]
    by_cases hxy : x = y
    · subst hxy
      rw [PySem.W.dataLt_all_yes hal (PySem.W.eqv_refl_alike _ hal)]
      exact toks_no a b (by simpa using h) ht
    · have hne : PyData.eqv (Dt.int x).py (Dt.int y).py = false := by
        have : PyData.eqvAll [(Dt.int x).py] [(Dt.int y).py] = false := by
          have h2 := eqv_ints [x] [y]
          rw [decide_eq_false (fun z => hxy (List.cons.inj z).1)] at h2
          exact h2
        rw [PyData.eqvAll, PyData.eqvAll, Bool.and_true] at this
        exact this
      rw [PySem.W.dataLt_all_no hal hne, Dt.py, Dt.py, PySem.W.dataLt_int]
      exact decide_eq_false (by omega)
theorem set_no {a b c d : List Int} (l1 : a.length = b.length) (l2 : c.length = d.length) (h1 : ∀ i : Nat, b.getD i 0 ≤ a.getD i 0) (h2 : ∀ i : Nat, d.getD i 0 ≤ c.getD i 0) : PySem.W.dataLt (eSet a c).py (eSet b d).py = false ∧ PySem.W.alike (eSet a c).py (eSet b d).py = true ∧ (eSet a c).py ≠ .none ∧ min (eSet a c).py.depth (eSet b d).py.depth ≤ 60 := by
  have e1 : (eSet a c).py = .tuple [(eI a).py, (eI c).py] := by simp only [Dt.py, pyAll]
  have e2 : (eSet b d).py = .tuple [(eI b).py, (eI d).py] := by simp only [Dt.py, pyAll]
  have al1 := alike_eI a b
  have al2 := alike_eI c d
  refine ⟨?_, ?_, by rw [e1]; simp, ?_⟩
  · rw [e1, e2, PySem.W.dataLt_tuple]
    by_cases hab : a = b
    · subst hab
      rw [PySem.W.dataLt_all_yes al1 (PySem.W.eqv_refl_alike _ al1)]
      by_cases hcd : c = d
      · subst hcd
        rw [PySem.W.dataLt_all_yes al2 (PySem.W.eqv_refl_alike _ al2)]
        have h := PySem.W.lex_pre (PySem.W.keyToksAll []) [] []
        rw [List.append_nil] at h
        rw [h]; rfl
      · rw [PySem.W.dataLt_all_no al2 (by rw [eqv_eI, decide_eq_false hcd]), Dt.py, Dt.py, PySem.W.dataLt_list]
        exact toks_no c d l2 h2
    · rw [PySem.W.dataLt_all_no al1 (by rw [eqv_eI, decide_eq_false hab]), Dt.py, Dt.py, PySem.W.dataLt_list]
      exact toks_no a b l1 h1
  · rw [e1, e2, PySem.W.alike, PySem.W.alikeAll, PySem.W.alikeAll, PySem.W.alikeAll, al1, al2]; rfl
  · rw [dep_py]
    have : (eSet a c).dep = 2 := by rw [Dt.dep, depAll, depAll, depAll, Dt.dep, Dt.dep, depAll_ints, depAll_ints]; rfl
    omega
/-! ### gaps -/
theorem clo_gap {w : Int} {ns : List Int} {f : Int → Int} (hf : IsClo w ns f) (hw : 0 ≤ w) : ∀ (n : Nat) (a b : Int), a ∈ ns → b ∈ ns → a ≤ b → (b - a).toNat ≤ n → min (b - a) (w + 1) ≤ f b - f a ∧ f b - f a ≤ b - a
  | 0, a, b, ha, hb, h, hn => by
    have : a = b := by omega
    subst this
    omega
  | n + 1, a, b, ha, hb, h, hn => by
    by_cases hab : a = b
    · subst hab; omega
    · cases hp : pre ns b with
      | none => have := pre_none hp a ha; omega
      | some c =>
        obtain ⟨h1, h2, h3⟩ := pre_some hp
        have hac : a ≤ c := by rcases h3 a ha with z | z <;> omega
        have e := hf.2 c h1 b hb h2 h3
        obtain ⟨i1, i2⟩ := clo_gap hf hw n a c ha h1 hac (by omega)
        omega
theorem clo_two {w : Int} {ns : List Int} (hw : 0 ≤ w) {a b : Int} (ha : a ∈ ns) (hb : b ∈ ns) : (a ≤ b → min (b - a) (w + 1) ≤ clo w ns b - clo w ns a ∧ clo w ns b - clo w ns a ≤ b - a) ∧ (b ≤ a → min (a - b) (w + 1) ≤ clo w ns a - clo w ns b ∧ clo w ns a - clo w ns b ≤ a - b) :=
  ⟨fun h => clo_gap (clo_is w ns) hw _ a b ha hb h (Nat.le_refl _), fun h => clo_gap (clo_is w ns) hw _ b a hb ha h (Nat.le_refl _)⟩
theorem cloR_getD {w : Int} {ns : List Int} {i : Nat} (h : i < ns.length) : (cloR w ns).getD i 0 = clo w ns (ns.getD i 0) := by
  rw [List.getD_eq_getElem?_getD, List.getD_eq_getElem?_getD, cloR, List.getElem?_map, List.getElem?_eq_getElem h]; rfl
theorem getD_mem {ns : List Int} {i : Nat} (h : i < ns.length) : ns.getD i 0 ∈ ns := by
  rw [List.getD_eq_getElem?_getD, List.getElem?_eq_getElem h]
  exact List.getElem_mem _
/-- differences of two places -/
theorem cloR_two {w : Int} {ns : List Int} (hw : 0 ≤ w) {i j : Nat} (hi : i < ns.length) (hj : j < ns.length) : (ns.getD i 0 ≤ ns.getD j 0 → min (ns.getD j 0 - ns.getD i 0) (w + 1) ≤ (cloR w ns).getD j 0 - (cloR w ns).getD i 0 ∧ (cloR w ns).getD j 0 - (cloR w ns).getD i 0 ≤ ns.getD j 0 - ns.getD i 0) ∧
    (ns.getD j 0 ≤ ns.getD i 0 → min (ns.getD i 0 - ns.getD j 0) (w + 1) ≤ (cloR w ns).getD i 0 - (cloR w ns).getD j 0 ∧ (cloR w ns).getD i 0 - (cloR w ns).getD j 0 ≤ ns.getD i 0 - ns.getD j 0) := by
  rw [cloR_getD hi, cloR_getD hj]
  exact clo_two hw (getD_mem hi) (getD_mem hj)
theorem cloR_lo {w : Int} {ns : List Int} (hw : 0 ≤ w) : ∀ x ∈ cloR w ns, 0 ≤ x := fun x hx => by
  obtain ⟨y, hy, rfl⟩ := List.mem_map.mp hx
  exact (clo_range (clo_is w ns) hw _ y hy (Nat.le_refl _)).1
theorem cloR_zero {w : Int} {ns : List Int} (hn : ns ≠ []) : (0 : Int) ∈ cloR w ns :=
  List.mem_map.mpr ⟨minL ns, minL_mem hn, (clo_is w ns).1 _ (minL_mem hn) fun _ h => minL_le h⟩
theorem cloR_min {w : Int} {ns : List Int} (hw : 0 ≤ w) (hn : ns ≠ []) : minL (cloR w ns) = 0 :=
  (minL_eq (cloR_zero hn) fun y hy => cloR_lo hw y hy).symm
theorem cloR_up {w : Int} {ns : List Int} (hw : 0 ≤ w) (i : Nat) : (cloR w ns).getD i 0 ≤ (ns.map fun v => v - minL ns).getD i 0 := by
  by_cases hi : i < ns.length
  · rw [cloR_getD hi]
    have h := (clo_range (clo_is w ns) hw _ _ (getD_mem hi) (Nat.le_refl _)).2
    have e : (ns.map fun v => v - minL ns).getD i 0 = ns.getD i 0 - minL ns := by
      rw [List.getD_eq_getElem?_getD, List.getD_eq_getElem?_getD, List.getElem?_map, List.getElem?_eq_getElem hi]; rfl
    rw [e]
    exact h
  · rw [List.getD_eq_getElem?_getD, List.getD_eq_getElem?_getD, List.getElem?_eq_none (by rw [cloR_len]; omega), List.getElem?_eq_none (by rw [List.length_map]; omega)]
    exact Int.le_refl _
end U

namespace U
open PySem L2
open Evl (Ex fresh_back sz_of sz_lt sq_of st_of rLenS rListS)
mutual
/-- no list or tuple in it is longer than 1,000 -/
def Dt.okz : Dt → Bool
  | .lst xs | .tup xs => decide (xs.length ≤ 1000) && okzAll xs
  | _ => true
def okzAll : List Dt → Bool
  | [] => true
  | x :: xs => Dt.okz x && okzAll xs
end
theorem okz_mem : ∀ {xs : List Dt} {x : Dt}, okzAll xs = true → x ∈ xs → x.okz = true
  | y :: xs, x, h, hm => by
    rw [okzAll, Bool.and_eq_true] at h
    rcases List.mem_cons.mp hm with e | e
    · rw [e]; exact h.1
    · exact okz_mem h.2 e
theorem okz_lst {xs : List Dt} (h : (Dt.lst xs).okz = true) : xs.length ≤ 1000 ∧ okzAll xs = true := by
  rw [Dt.okz, Bool.and_eq_true, decide_eq_true_eq] at h; exact h
theorem okz_tup {xs : List Dt} (h : (Dt.tup xs).okz = true) : xs.length ≤ 1000 ∧ okzAll xs = true := by
  rw [Dt.okz, Bool.and_eq_true, decide_eq_true_eq] at h; exact h
section
variable {K : PySem.W.Frag} {σ : L2.St} {B B' H : Hp} {ta te : TE} {tl : TA} {d : Dt} {ds : List Dt} {D : Ends} {j : Nat}
theorem cutFrom (vs : List V) (m : Int) (h : 0 ≤ m) : cutV vs (some m) none = vs.drop m.toNat := by
  obtain ⟨k, rfl⟩ := Int.eq_ofNat_of_zero_le h
  have e1 : HT.sIx vs.length vs.length none = vs.length := HT.sIx_none _ _
  have e2 : HT.sIx vs.length 0 (some (k : Int)) = min k vs.length := HT.sIx_nat _ _ k
  unfold cutV
  rw [e1]
  show ((vs.drop (HT.sIx vs.length 0 (some (k : Int)))).take (vs.length - HT.sIx vs.length 0 (some (k : Int)))) = _
  rw [e2, Int.toNat_natCast, List.take_of_length_le (by rw [List.length_drop]; omega)]
  by_cases h : k ≤ vs.length
  · rw [Nat.min_eq_left h]
  · rw [Nat.min_eq_right (by omega), List.drop_of_length_le (Nat.le_refl _), List.drop_of_length_le (by omega)]
/-- e[n:] -/
theorem ev_slFr {tb : TE} {m : Int} (h : EvR ta σ B (.lst ds)) (hi : EvR tb σ B (.int m)) (h0 : 0 ≤ m) : EvR (tSl (rSlL K) ta (tPart tb) tNoPart) σ B (.lst (ds.drop m.toNat)) := fun H1 e Q q =>
  h H1 e _ fun v B1 H2 n rv => (hi.mono n.ext) H2 n.sub _ fun w B2 H3 n2 rw => by
    obtain ⟨p, vs, rfl, hp, ra⟩ := rv.lst_inv
    have hp2 := n2.ext _ _ hp
    refine ⟨m, rw.int_inv, p, vs, rfl, sq_of (n2.sub _ _ hp2), fun p2 hp3 => ?_⟩
    rw [cutFrom vs m h0]
    exact q _ (upd B2 p2 (.lst (vs.drop m.toNat))) _ ((n.trans n2).trans (New.one n2.sub hp3)) (.lst upd_same (((ra.mono n2.ext).drop _).mono (Evl.Ex.new (fresh_back n2.sub hp3))))
/-- X('no') as a value -/
theorem ev_exc {C : Addr} (h : EvR ta σ B d) : EvR (fun σ H Q => ta σ H fun _ H1 => ∀ a, H1 a = none → Q (.ref a) (upd H1 a (ExO (.ref C) a))) σ B (.exc C) := fun H1 e Q q =>
  h H1 e _ fun v B2 H2 n rv a ha => q _ (upd B2 a (ExO (.ref C) a)) _ (n.trans (New.one n.sub ha)) (.exc (.inl upd_same))
theorem q_lcD {l : List Dt} {f : Dt → Dt} {vs : List Nat} (h : EvR ta σ B d) (it : Items d l) (hz : l.length < 100000) (hw : ∀ x, wipe ((wipe σ vs).set j (some x)) vs = wipe σ vs)
    (he : ∀ q v B1, q ∈ l → Ex B B1 → R B1 v q → EvR te ((wipe σ vs).set j (some v)) B1 (f q)) : EvR (tLc (iSeq K ta) (gName j) tYes te vs) σ B (.lst (l.map f)) :=
  q_lc1 (enc := fun x => x) h (by rw [List.map_id']; exact it) hz hw he
end
/-- a promise: nothing is returned, or the error C -/
def spE (C : Addr) (g : List Dt → Bool → Prop) : Sp := fun vs H Q E => ∃ B as b, Ex B H ∧ RA B vs as ∧ g as b ∧ (b = true → ∀ H2, Ex H H2 → Q .non H2) ∧ (b = false → ∀ H2, Ex H H2 → E (.ref C) none H2)
/-- a promise: a truth value, or the error C -/
def spB (C : Addr) (g : List Dt → Option Bool → Prop) : Sp := fun vs H Q E => ∃ B as o, Ex B H ∧ RA B vs as ∧ g as o ∧ (∀ b, o = some b → ∀ H2, Ex H H2 → Q (.bl b) H2) ∧ (o = none → ∀ H2, Ex H H2 → E (.ref C) none H2)
section
variable {σ : L2.St} {B H : Hp} {tl tk : TA} {xs zs : List Dt} {D : Ends} {C : Addr}
theorem ev_B {g : List Dt → Option Bool → Prop} {E : XK} {b : Bool} (h : EvRA tl σ B xs) (hg : g xs (some b)) : EvR (tCall (spB C g) [] E tl) σ B (.bl b) := fun H1 e Q q => h H1 e _ fun vs B1 H2 n ra =>
  ⟨B1, xs, some b, n.sub, by rw [List.append_nil]; exact ra, hg, fun c hc H3 e3 => by cases hc; exact q _ B1 H3 (n.trans (New.grow (n.sub.trans e3) e3 n.sub)) (.bl _), fun z => nomatch z⟩
theorem ev_BK {g : List Dt → Option Bool → Prop} {E : XK} {b : Bool} {gV : List V → List V → List V} {gD : List Dt → List Dt → List Dt} (h : EvRA tl σ B xs) (hk : EvRA tk σ B zs) (rel : ∀ B vs ws as bs, RA B vs as → RA B ws bs → as.length = xs.length → bs.length = zs.length → RA B (gV vs ws) (gD as bs)) (hg : g (gD xs zs) (some b)) :
    EvR (tCallK (spB C g) gV E tl tk) σ B (.bl b) := fun H1 e Q q => h H1 e _ fun vs B1 H2 n ra => (hk.mono n.ext) H2 n.sub _ fun ws B2 H3 n2 rb =>
  ⟨B2, _, some b, n2.sub, rel B2 vs ws xs zs (ra.mono n2.ext) rb rfl rfl, hg, fun c hc H4 e4 => by cases hc; exact q _ B2 H4 ((n.trans n2).trans (New.grow (n2.sub.trans e4) e4 n2.sub)) (.bl _), fun z => nomatch z⟩
/-- need_x(..) as a statement -/
theorem s_need {g : List Dt → Bool → Prop} {E : XK} {b : Bool} (e : Ex B H) (h : EvRA tl σ B xs) (hg : g xs b) (h1 : b = true → ∀ H1, Up B H H1 → D.nx σ H1) (h2 : b = false → ∀ H1, Ex H H1 → E (.ref C) none H1) : tDrop (tCall (spE C g) [] E tl) D σ H := h H e _ fun vs B1 H2 n ra =>
  ⟨B1, xs, b, n.sub, by rw [List.append_nil]; exact ra, hg, fun hb H3 e3 => h1 hb H3 ⟨e, (e.trans n.heap).trans e3, n.heap.trans e3⟩, fun hb H3 e3 => h2 hb H3 (n.heap.trans e3)⟩
end
end U

namespace U
open PySem PySem.Spec PyProof.Rows L2
open Evl (Ex fresh_back sz_of sz_lt sq_of st_of rLenS rListS ex_l)
/-- ** of a great base -/
def CPowW (i j : Int) : Prop := 0 ≤ j ∧ (Builtin.Int.intBits i : Int) * j ≤ 2 ^ 27
section
variable {X : Cx}
theorem op_powW : OpR X (binaryOp .Pow) (rI CPowW fun i j => .int (i ^ j.toNat)) := opI fun _ _ _ _ _ _ _ hc q => pow_int hc.1 hc.2 q
end
section
variable {i j : Int}
theorem rv_powW (h : CPowW i j) : RV (rI CPowW fun i j => .int (i ^ j.toNat)) (.int i) (.int j) (.int (i ^ j.toNat)) := rv_I (g' := fun i j => .int (i ^ j.toNat)) (fun _ _ _ => .int _) h
theorem rv_divW (h : CDivW i j) : RV (rI CDivW fun i j => .int (i / j)) (.int i) (.int j) (.int (i / j)) := rv_I (g' := fun i j => .int (i / j)) (fun _ _ _ => .int _) h
end
/-- all but what stands at p and q stays -/
def But (p q : Addr) (H H' : Hp) : Prop := ∀ a u, a ≠ p → a ≠ q → H a = some u → H' a = some u
theorem But.refl {p q : Addr} {H : Hp} : But p q H H := fun _ _ _ _ h => h
theorem But.of {p q : Addr} {H H' : Hp} (e : Ex H H') : But p q H H' := fun a u _ _ h => e a u h
theorem But.trans {p q : Addr} {H H1 H2 : Hp} (a : But p q H H1) (b : But p q H1 H2) : But p q H H2 := fun x u h1 h2 h => b x u h1 h2 (a x u h1 h2 h)
theorem But.updp {p q : Addr} {H : Hp} {u : HO} : But p q H (upd H p u) := fun a v h1 _ h => by rw [upd_ne h1]; exact h
theorem But.updq {p q : Addr} {H : Hp} {u : HO} : But p q H (upd H q u) := fun a v _ h2 h => by rw [upd_ne h2]; exact h
theorem But.ex {p q : Addr} {B H H' : Hp} (b : But p q H H') (e : Ex B H) (hp : B p = none) (hq : B q = none) : Ex B H' := fun a u h =>
  b a u (fun z => by subst z; rw [hp] at h; cases h) (fun z => by subst z; rw [hq] at h; cases h) (e a u h)
/-- what the deck holds -/
structure DkAt (p q : Addr) (H : Hp) (ns : List Int) (i s c : Int) : Prop where
  ne : p ≠ q
  hp : H p = some (.lst [.ref q, .int i, .int s, .int c])
  hq : H q = some (.lst (ns.map V.int))
  nn : ∀ n ∈ ns, 0 ≤ n
  len : ns.length ≤ 63
  i0 : 0 ≤ i
  s0 : 0 ≤ s
  s1 : s < 2147483647
def Dk (p q : Addr) (H : Hp) : Prop := ∃ ns i s c, DkAt p q H ns i s c
section
variable {p q : Addr} {B B1 B2 H H' H1 H2 : Hp} {ns : List Int} {i s c : Int}
theorem DkAt.ex (e : Ex H H') (d : DkAt p q H ns i s c) : DkAt p q H' ns i s c := ⟨d.ne, e _ _ d.hp, e _ _ d.hq, d.nn, d.len, d.i0, d.s0, d.s1⟩
theorem Dk.ex (e : Ex H H') (d : Dk p q H) : Dk p q H' := by obtain ⟨_, _, _, _, d⟩ := d; exact ⟨_, _, _, _, d.ex e⟩
theorem Dk.np (d : Dk p q H) : H p ≠ none := by obtain ⟨_, _, _, _, d⟩ := d; rw [d.hp]; exact fun z => nomatch z
theorem Dk.nq (d : Dk p q H) : H q ≠ none := by obtain ⟨_, _, _, _, d⟩ := d; rw [d.hq]; exact fun z => nomatch z
/-- from (B, H) to (B', H'), the deck perhaps changed -/
structure NewD (p q : Addr) (B H B' H' : Hp) : Prop where
  ext : Ex B B'
  sub : Ex B' H'
  heap : But p q H H'
  fresh : ∀ a, B a = none → H a ≠ none → B' a = none
theorem New.d (n : New B H B1 H1) : NewD p q B H B1 H1 := ⟨n.ext, n.sub, But.of n.heap, n.fresh⟩
theorem NewD.refl (e : Ex B H) : NewD p q B H B H := (New.refl e).d
theorem NewD.trans (d : Dk p q H1) (a : NewD p q B H B1 H1) (b : NewD p q B1 H1 B2 H2) : NewD p q B H B2 H2 :=
  ⟨a.ext.trans b.ext, b.sub, a.heap.trans b.heap, fun x h1 h2 => b.fresh x (a.fresh x h1 h2) fun h3 => by
    by_cases hp : x = p
    · subst hp; exact d.np h3
    · by_cases hq : x = q
      · subst hq; exact d.nq h3
      · cases z : H x with
        | none => exact h2 z
        | some o => rw [a.heap x o hp hq z] at h3; cases h3⟩
/-- the deck is none of the data -/
structure Out (p q : Addr) (B : Hp) : Prop where
  p : B p = none
  q : B q = none
theorem NewD.out (d : Dk p q H) (o : Out p q B) (n : NewD p q B H B1 H1) : Out p q B1 := ⟨n.fresh p o.p d.np, n.fresh q o.q d.nq⟩
theorem New.out (d : Dk p q H) (o : Out p q B) (n : New B H B1 H1) : Out p q B1 := ⟨n.fresh p o.p d.np, n.fresh q o.q d.nq⟩
/-- the data and the deck, read together -/
def dkB (p q : Addr) (B : Hp) (ns : List Int) (i s c : Int) : Hp := upd (upd B p (.lst [.ref q, .int i, .int s, .int c])) q (.lst (ns.map V.int))
theorem DkAt.sub (d : DkAt p q H ns i s c) (e : Ex B H) : Ex (dkB p q B ns i s c) H := fun a u h => by
  unfold dkB at h
  by_cases hq : a = q
  · subst hq; rw [upd_same] at h; cases h; exact d.hq
  · rw [upd_ne hq] at h
    by_cases hp : a = p
    · subst hp; rw [upd_same] at h; cases h; exact d.hp
    · rw [upd_ne hp] at h; exact e a u h
theorem dkB_at (ne : p ≠ q) : dkB p q B ns i s c p = some (.lst [.ref q, .int i, .int s, .int c]) := by
  unfold dkB
  rw [upd_ne ne, upd_same]
theorem dkB_q : dkB p q B ns i s c q = some (.lst (ns.map V.int)) := by
  unfold dkB
  rw [upd_same]
theorem dkB_R (ne : p ≠ q) : R (dkB p q B ns i s c) (.ref p) (.lst [.lst (ns.map .int), .int i, .int s, .int c]) :=
  .lst (dkB_at ne) (.cons (.lst dkB_q (RA.ints ns)) (.cons (.int _) (.cons (.int _) (.cons (.int _) .nil))))
end

/-! ### what may draw from the deck -/
def EvK (p q : Addr) (te : TE) (σ : L2.St) (B : Hp) (P : Dt → Prop) : Prop := ∀ B1 H1, Ex B B1 → Ex B1 H1 → Out p q B1 → Dk p q H1 → ∀ Q : VK, (∀ v B2 H2 d, P d → NewD p q B1 H1 B2 H2 → Dk p q H2 → R B2 v d → Q v H2) → te σ H1 Q
def EvKA (p q : Addr) (ta : TA) (σ : L2.St) (B : Hp) (P : List Dt → Prop) : Prop := ∀ B1 H1, Ex B B1 → Ex B1 H1 → Out p q B1 → Dk p q H1 → ∀ Q : List V → Hp → Prop, (∀ vs B2 H2 ds, P ds → NewD p q B1 H1 B2 H2 → Dk p q H2 → RA B2 vs ds → Q vs H2) → ta σ H1 Q
/-- a promise: a number below m is drawn -/
def spTake : Sp := fun vs H Q _ => ∃ (p q : Addr) (m : Int), vs = [.ref p, .int m] ∧ 0 < m ∧ m < 2 ^ 900 ∧ Dk p q H ∧ ∀ r H2, 0 ≤ r → r < m → But p q H H2 → Dk p q H2 → Q (.int r) H2
section
variable {K : PySem.W.Frag} {p q : Addr} {σ : L2.St} {B H : Hp} {ta tb te : TE} {tl tr : TA} {d x y : Dt} {ds : List Dt} {P P1 P2 : Dt → Prop} {PL PR : List Dt → Prop} {r : R2} {D : Ends} {n i : Nat}
theorem EvK.up {B' : Hp} (e : Ex B B') (h : EvK p q te σ B P) : EvK p q te σ B' P := fun B1 H1 e1 => h B1 H1 (e.trans e1)
theorem EvK.imp (h : EvK p q te σ B P) (g : ∀ d, P d → P1 d) : EvK p q te σ B P1 := fun B1 H1 e1 e2 o k Q c => h B1 H1 e1 e2 o k Q fun v B2 H2 d hd => c v B2 H2 d (g d hd)
theorem ek_R (h : EvR te σ B d) (hp : P d) : EvK p q te σ B P := fun B1 H1 e1 e2 o k Q c => (h.mono e1) H1 e2 Q fun v B2 H2 n rv => c v B2 H2 d hp n.d (k.ex n.heap) rv
theorem eka_R (h : EvRA tl σ B ds) (hp : PL ds) : EvKA p q tl σ B PL := fun B1 H1 e1 e2 o k Q c => (h.mono e1) H1 e2 Q fun v B2 H2 n rv => c v B2 H2 ds hp n.d (k.ex n.heap) rv
theorem ek_op (ha : EvK p q ta σ B P1) (hb : EvK p q tb σ B P2) (hr : ∀ x y, P1 x → P2 y → ∃ z, P z ∧ RV r x y z) : EvK p q (tOp r ta tb) σ B P := fun B1 H1 e1 e2 o k Q c =>
  ha B1 H1 e1 e2 o k _ fun v B2 H2 x px n1 k1 rx => hb B2 H2 (e1.trans n1.ext) n1.sub (n1.out k o) k1 _ fun w B3 H3 y py n2 k2 ry => by
    obtain ⟨z, pz, rz⟩ := hr x y px py
    exact rz B3 H3 v w n2.sub (rx.mono n2.ext) ry Q fun u B4 H4 n3 ru => c u B4 H4 z pz (NewD.trans k2 (NewD.trans k1 n1 n2) n3.d) (k2.ex n3.heap) ru
theorem eka_nil : EvKA p q tNil σ B (fun ds => ds = []) := fun B1 H1 e1 e2 o k Q c => c [] B1 H1 [] rfl (NewD.refl e2) k .nil
theorem eka_cons (h : EvK p q te σ B P) (hr : EvKA p q tr σ B PR) : EvKA p q (tCons te tr) σ B (fun ds => ∃ d es, ds = d :: es ∧ P d ∧ PR es) := fun B1 H1 e1 e2 o k Q c =>
  h B1 H1 e1 e2 o k _ fun v B2 H2 x px n1 k1 rx => hr B2 H2 (e1.trans n1.ext) n1.sub (n1.out k o) k1 _ fun vs B3 H3 es pe n2 k2 re =>
    c (v :: vs) B3 H3 (x :: es) ⟨x, es, rfl, px, pe⟩ (NewD.trans k1 n1 n2) k2 (.cons (rx.mono n2.ext) re)
theorem EvKA.imp {PL' : List Dt → Prop} (h : EvKA p q tl σ B PL) (g : ∀ d, PL d → PL' d) : EvKA p q tl σ B PL' := fun B1 H1 e1 e2 o k Q c => h B1 H1 e1 e2 o k Q fun v B2 H2 d hd => c v B2 H2 d (g d hd)
theorem ek_tup (h : EvKA p q tl σ B PL) (hl : ∀ ds, PL ds → ds.length ≤ 100000 ∧ P (.tup ds)) : EvK p q (tTup tl) σ B P := fun B1 H1 e1 e2 o k Q c =>
  h B1 H1 e1 e2 o k _ fun vs B2 H2 ds pd n1 k1 rv => ⟨by rw [rv.len]; exact sz_of (hl ds pd).1, fun a ha => by
    have N : New B2 H2 (upd B2 a (.tup vs)) (upd H2 a (.tup vs)) := New.one n1.sub ha
    exact c _ (upd B2 a (.tup vs)) _ (.tup ds) (hl ds pd).2 (NewD.trans k1 n1 N.d) (k1.ex N.heap) (.tup upd_same (rv.mono N.ext))⟩
theorem ek_lst (h : EvKA p q tl σ B PL) (hl : ∀ ds, PL ds → ds.length ≤ 100000 ∧ P (.lst ds)) : EvK p q (tLst tl) σ B P := fun B1 H1 e1 e2 o k Q c =>
  h B1 H1 e1 e2 o k _ fun vs B2 H2 ds pd n1 k1 rv => ⟨by rw [rv.len]; exact sz_of (hl ds pd).1, fun a ha => by
    have N : New B2 H2 (upd B2 a (.lst vs)) (upd H2 a (.lst vs)) := New.one n1.sub ha
    exact c _ (upd B2 a (.lst vs)) _ (.lst ds) (hl ds pd).2 (NewD.trans k1 n1 N.d) (k1.ex N.heap) (.lst upd_same (rv.mono N.ext))⟩
/-- a draw -/
theorem ek_take {E : XK} {m : Int} (hv : σ[n]? = some (some (.ref p))) (h : EvR te σ B (.int m)) (h0 : 0 < m) (h1 : m < 2 ^ 900) : EvK p q (tCall spTake [] E (tCons (tVar n) (tCons te tNil))) σ B (fun d => ∃ r, d = .int r ∧ 0 ≤ r ∧ r < m) := fun B1 H1 e1 e2 o k Q c =>
  ⟨_, hv, (h.mono e1) H1 e2 _ fun w B2 H2 n2 rw => by
    cases rw
    refine ⟨p, q, m, rfl, h0, h1, k.ex n2.heap, fun r H3 r0 r1 b dk => ?_⟩
    have o2 := n2.out k o
    exact c (.int r) B2 H3 (.int r) ⟨r, rfl, r0, r1⟩ ⟨n2.ext, b.ex n2.sub o2.p o2.q, (But.of n2.heap).trans b, n2.fresh⟩ dk (.int r)⟩
/-- x = e -/
theorem s_asgK (e : Ex B H) (o : Out p q B) (k : Dk p q H) (h : EvK p q te σ B P) (c : ∀ v B1 H1 d, P d → NewD p q B H B1 H1 → Out p q B1 → Dk p q H1 → R B1 v d → D.nx (σ.set i (some v)) H1) : tAsg te (gName i) D σ H :=
  h B H (Ex.refl B) e o k _ fun v B2 H2 d pd n1 k1 rv => c v B2 H2 d pd n1 (n1.out k o) k1 rv
/-- return e -/
theorem s_retK (e : Ex B H) (o : Out p q B) (k : Dk p q H) (h : EvK p q te σ B P) (c : ∀ v B1 H1 d, P d → NewD p q B H B1 H1 → Out p q B1 → Dk p q H1 → R B1 v d → D.rt v H1) : tRet te D σ H :=
  h B H (Ex.refl B) e o k _ fun v B2 H2 d pd n1 k1 rv => c v B2 H2 d pd n1 (n1.out k o) k1 rv
theorem s_forK {g : TG} {tu : TS} (e : Ex B H) (o : Out p q B) (k : Dk p q H) (h : EvK p q te σ B P) (c : ∀ v B1 H1 d, P d → NewD p q B H B1 H1 → Dk p q H1 → R B1 v d → tFor (iSeq K (fun _ H Q => Q v H)) g tu D σ H1) : tFor (iSeq K te) g tu D σ H :=
  h B H (Ex.refl B) e o k _ fun v B1 H1 d pd n k1 rv => c v B1 H1 d pd n k1 rv
theorem ev_val {v : V} (rv : R B v d) : EvR (fun _ H Q => Q v H) σ B d := fun H1 e Q c => c v B H1 (New.refl e) rv
/-- the deck's own rows: deck[k] = e -/
theorem s_setD {ti : TE} {k : Int} {j : Nat} {xs : List V} {z : Int} (e : Ex B H) (hv : σ[n]? = some (some (.ref p))) (hp : B p = some (.lst xs)) (h : EvR te σ B (.int z)) (hi : EvR ti σ B (.int k)) (hj : ixN xs.length k = some j)
    (c : ∀ H2, Ex H H2 → D.nx σ (upd H2 p (.lst (xs.set j (.int z))))) : tAsg te (gSub (tVar n) ti L2.rSetL) D σ H := h H e _ fun v B1 H1 n1 rv => by
  cases rv
  exact ⟨.ref p, hv, (hi.mono n1.ext) H1 n1.sub _ fun w B2 H2 n2 rw => by
    cases rw
    exact ⟨p, xs, k, j, rfl, rfl, n2.sub _ _ (n2.ext _ _ (n1.ext _ _ hp)), hj, c H2 (n1.heap.trans n2.heap)⟩⟩
/-- deck[0][k] = e -/
theorem s_setDD {ti : TE} {k : Int} {j : Nat} {xs rest : List V} {z : Int} (e : Ex B H) (hv : σ[n]? = some (some (.ref p))) (hp : B p = some (.lst (.ref q :: rest))) (hq : B q = some (.lst xs)) (h : EvR te σ B (.int z)) (hi : EvR ti σ B (.int k)) (hj : ixN xs.length k = some j)
    (c : ∀ H2, Ex H H2 → D.nx σ (upd H2 q (.lst (xs.set j (.int z))))) : tAsg te (gSub (tOp (rIx K) (tVar n) (tC (.int 0))) ti L2.rSetL) D σ H := h H e _ fun v B1 H1 n1 rv => by
  cases rv
  refine ⟨.ref p, hv, .inl ⟨p, .ref q :: rest, 0, .ref q, rfl, rfl, sq_of (n1.sub _ _ (n1.ext _ _ hp)), atI_nat' (m := 0) rfl, ?_⟩⟩
  exact (hi.mono n1.ext) H1 n1.sub _ fun w B2 H2 n2 rw => by
    cases rw
    exact ⟨q, xs, k, j, rfl, rfl, n2.sub _ _ (n2.ext _ _ (n1.ext _ _ hq)), hj, c H2 (n1.heap.trans n2.heap)⟩
/-- script[:m] -/
theorem ev_slToS {a : Addr} {ns : List Int} {m : Int} (hv : σ[n]? = some (some (.ref a))) (hs : SqL K B a (ns.map V.int)) (hi : EvR tb σ B (.int m)) (h0 : 0 ≤ m) : EvR (tSl (rSlL K) (tVar n) tNoPart (tPart tb)) σ B (.lst ((ns.take m.toNat).map .int)) := fun H1 e Q c =>
  ⟨_, hv, hi H1 e _ fun w B2 H2 n2 rw => by
    refine ⟨m, rw.int_inv, a, ns.map V.int, rfl, ex_l n2.sub (ex_l n2.ext hs), fun p2 hp3 => ?_⟩
    rw [cutTo _ m h0]
    have := c (.ref p2) (upd B2 p2 (.lst ((ns.map V.int).take m.toNat))) _ (n2.trans (New.one n2.sub hp3)) (.lst upd_same (by rw [← List.map_take]; exact RA.ints _))
    exact this⟩
end
end U

namespace U
open PySem PySem.Spec PyProof.Rows L2 PySem.HandSPX
section
variable {prog : Program} {w : World} {A : Around} {Z : Value → Shared → Prop} {R : Result → Shared → Prop} {hp : Heap} {gs : Array GenState} {dr : Drawn} {tk : Nat} {so : OsState}
variable {nm q : Str} {C N fI : Addr} {bs bm bmB : List Value} {hdct : Bool} {sn : List Str} {sub : List Value} {ab : Bool} {col : Option Bool} {dd : Option Addr} {k0 k1 k2 k3 k5 : Option Value} {B newId initId : String} {kw : List (Str × Value)}
/-- the check of C.__new__ with keywords alone -/
theorem newK_check (F : ExcBaseFacts B newId initId bmB) (sees : ∀ y : String, bm.contains (.type y) = bmB.contains (.type y)) {G : Unit → Shared → Prop} {M : Model}
    (at_ : hp.get? C = some (excClassObj nm q C N bs bm hdct sn sub ab col dd k0 k1 k2 k3 k5 newId)) (go : G () ⟨hp, gs, dr, tk, so⟩) : wpAny M A (checkBuiltinCall newId ⟨[.ref C], kw⟩) G Z ⟨hp, gs, dr, tk, so⟩ := by
  have inB : (Value.ref C :: bm).contains (.type B) = true := by rw [List.contains_cons, sees, F.hasB, Bool.or_true]
  have := F.noStar
  simp only [checkBuiltinCall, F.newKind, F.newSplit, F.newRow]
  repeat (first
    | refine wpAny_loadPart_at at_ ?_
    | (refine wpAny_isSubtype_exc at_ ?_
       rw [inB])
    | refine wpAny_staticBase_exc at_ ?_
    | refine wpAny_madeBy_exc at_ ?_
    | simp only [bne_self_eq_false, Bool.false_eq_true, if_false]
    | wp_step)
  exact go

/-- C.__new__ with keywords alone: a new exception without arguments -/
theorem newK_goes (F : ExcBaseFacts B newId initId bmB) (sees : ∀ y : String, bm.contains (.type y) = bmB.contains (.type y)) (at_ : hp.get? C = some (excClassObj nm q C N bs bm hdct sn sub ab col dd k0 k1 k2 k3 k5 newId))
    (go : R (.ok (.ret (.ref (hp.objs.size + 1)))) ⟨(hp.push (W.kdv_tup [])).push (excO C hp.objs.size), gs, dr, tk, so⟩) : codeAny (model prog w) A (.builtin newId ⟨[.ref C], kw⟩) R ⟨hp, gs, dr, tk, so⟩ := by
  have := F.ends
  have inB : (Value.ref C :: bm).contains (.type B) = true := by rw [List.contains_cons, sees, F.hasB, Bool.or_true]
  have notA : (Value.ref C :: bm).contains (.type "AttributeError") = false := by
    rw [List.contains_cons, sees, F.noAttr]
    rfl
  have notN : (Value.ref C :: bm).contains (.type "NameError") = false := by
    rw [List.contains_cons, sees, F.noName]
    rfl
  have fits : ([] : List Value).length ≤ sizeLine := Nat.zero_le _
  apply PySem.codeAny_builtinAt F.entry
  unfold Builtin.«BaseException.__new__»
  apply PySem.wpAt_bind
  refine (show PySem.wpAt _ _ _ (stack >>= _) _ _ _ from PySem.wpAt_bind (PySem.wpAt_stack fun _ _ => PySem.wpAt_of_wpAny ?_))
  wp_walk
  apply PySem.wpAt_of_wpAny
  rw [F.owner]
  repeat (first
    | with_reducible refine wpAny_madeHere_exc F.canon at_ ?_
    | with_reducible refine wpAny_loadPart_at at_ ?_
    | (with_reducible refine wpAny_isSubtype_exc at_ ?_
       first
         | rw [inB]
         | rw [notA]
         | rw [notN])
    | wp_step)
  refine (show R _ _ from ?_)
  rw [Heap.size_push]
  exact go

/-- type.__call__ of C with keywords alone -/
theorem callK_type (F : ExcBaseFacts B newId initId bmB) (sees : ∀ y : String, bm.contains (.type y) = bmB.contains (.type y)) {G : Fin → Shared → Prop} (at_ : hp.get? C = some (excClassObj nm q C N bs bm hdct sn sub ab col dd k0 k1 k2 k3 k5 newId))
    (ini : W.Looks (model prog w) hp (typeLookup (.ref C) "__init__") (some (.ref fI))) (bnd : ∀ self, W.Looks (model prog w) hp (bindSpecial (.ref fI) self) (.ref fI, [self]))
    (go : codeAny (model prog w) A (.call (.ref fI) ⟨[.ref (hp.objs.size + 1)], kw⟩) (fun r s' => match r with
      | .ok (.ret v) => v = .none ∧ G (.done (.ret (.ref (hp.objs.size + 1)))) s'
      | .ok _ => False
      | .error e => Z e s') ⟨(hp.push (W.kdv_tup [])).push (excO C hp.objs.size), gs, dr, tk, so⟩) :
    wpAny (model prog w) A (Builtin.«type.__call__» ⟨[.ref C], kw⟩) G Z ⟨hp, gs, dr, tk, so⟩ := by
  repeat (first
    | with_reducible refine wpAny_loadPart_at at_ ?_
    | with_reducible refine wpAny_madeBy_exc at_ ?_
    | wp_step)
  refine codeAny_call_builtin_code (Code.quiet_builtin _ F.quiet) (newK_check F sees at_ (newK_goes F sees at_ ?_))
  refine (show wpAny _ _ _ _ _ _ from ?_)
  have old : ∀ b o, hp.get? b = some o → ((hp.push (W.kdv_tup [])).push (excO C hp.objs.size)).get? b = some o := fun b o z => Heap.get?_push_of_some _ (Heap.get?_push_of_some _ z)
  have at2 := old _ _ at_
  have its : ((hp.push (W.kdv_tup [])).push (excO C hp.objs.size)).get? (hp.objs.size + 1) = some (excO C hp.objs.size) := by heap_get
  have inC : (Value.ref C :: bm).contains (.ref C) = true := by simp
  have ini2 := ini.keeps old
  have bnd2 := (bnd (.ref (hp.objs.size + 1))).keeps old
  unfold isInstance
  repeat (first
    | with_reducible refine wpAny_loadPart_at its ?_
    | (with_reducible refine wpAny_isSubtype_exc at2 ?_
       rw [inC])
    | wp_step)
  refine (show wpAny _ _ (typeLookup (.ref C) _) _ _ _ from ini2.at (wpAny_holding (wpAny_bind (bnd2.at (wpAny_bind (wpAny_call (codeAny_mono go fun r s' z => ?_)))))))
  match r, z with
  | .error e, z => exact z
  | .ok .next, z => exact z.elim
  | .ok .brk, z => exact z.elim
  | .ok .cont, z => exact z.elim
  | .ok (.ret v), ⟨hv, z⟩ =>
    subst hv
    first
      | exact wpAny_pure (wpAny_pure z)
      | (wp_walk
         exact z)
theorem callK_goes (F : ExcBaseFacts B newId initId bmB) (sees : ∀ y : String, bm.contains (.type y) = bmB.contains (.type y)) (at_ : hp.get? C = some (excClassObj nm q C N bs bm hdct sn sub ab col dd k0 k1 k2 k3 k5 newId))
    (ini : W.Looks (model prog w) hp (typeLookup (.ref C) "__init__") (some (.ref fI))) (bnd : ∀ self, W.Looks (model prog w) hp (bindSpecial (.ref fI) self) (.ref fI, [self]))
    (go : codeAny (model prog w) (A.under (.builtin "type.__call__" ⟨[.ref C], kw⟩)) (.call (.ref fI) ⟨[.ref (hp.objs.size + 1)], kw⟩) (W.InitBack (hp.objs.size + 1) R) ⟨(hp.push (W.kdv_tup [])).push (excO C hp.objs.size), gs, dr, tk, so⟩) :
    codeAny (model prog w) A (.call (.ref C) ⟨[], kw⟩) R ⟨hp, gs, dr, tk, so⟩ := by
  have := tc_lookup
  have := tc_bind (.ref C)
  have : (⟨hp, gs, dr, tk, so⟩ : Shared).TypeIs (.ref C) "type" := ⟨_, at_, rfl⟩
  apply codeAny_of_tree
  refine (show wpAny _ _ (callAny (.ref C) _) _ _ _ from ?_)
  repeat (any_goals (first
    | assumption
    | with_reducible refine wpAny_loadPart_at at_ ?_
    | wp_step))
  refine ⟨rfl, codeAny_call_builtin_at (Code.quiet_builtin _ (by decide +kernel)) entry_typeCall (wpAny_check_type_call_sub at_ (callK_type F sees at_ ini bnd (codeAny_mono go fun r s' z => ?_)))⟩
  rcases r with e | (v | _ | _ | _) <;> exact z
end
end U

namespace U
open PySem PySem.Spec PyProof.Rows L2
open Evl (Ex fresh_back sz_of sz_lt sq_of st_of rLenS rListS ex_l)
/-- isinstance(e, c), e an error that is held -/
def rIsX (K : PySem.W.Frag) : List V → Hp → VK → Prop := fun xs H Q => ∃ (a C : Addr) (c : V) (cv : Value) (b : Bool), xs = [.ref a, c] ∧ HasE H a C ∧ ExcC K C ∧ (∀ u, RelV c u → u = cv) ∧ PySem.W.kitOne K (.ref C) cv = some b ∧ Q (.bl b) H
theorem call_isX {X : Cx} : CallR X (.builtin "isinstance") (rIsX X.K) := by
  intro pins s σ H xs us Q I r h
  obtain ⟨a, C, c, cv, b, rfl, he, ec, hcv, hk, q⟩ := h
  obtain ⟨u1, u2, rfl, r1, r2⟩ := vals2 r
  cases (show u1 = Value.ref a from r1)
  have e2 := hcv _ r2
  subst e2
  obtain ⟨oe, od, J⟩ := inst_of I he
  obtain ⟨cd, hc, _⟩ := PySem.W.any_some ec.hd
  exact PySem.W.kia_one (PySem.W.kitx_exc (by rw [hc] <;> rfl) ec.hg ec.hk ec.hs ec.ha ec.hn ec.ht ec.hm) I.kIn J hk (fun z => nomatch z) fun tk => ⟨.bl b, H, I.tok tk, rfl, q⟩
theorem k_isX {K : PySem.W.Frag} {X : Cx} (h : X.K = K) : CallR X (.builtin "isinstance") (rIsX K) := h ▸ call_isX
section
variable {K : PySem.W.Frag} {σ : L2.St} {B H : Hp} {ta te : TE} {C : Addr} {c : V} {cv : Value} {b : Bool} {d : Dt}
theorem ev_isX (h : EvR ta σ B (.exc C)) (ec : ExcC K C) (hcv : ∀ u, RelV c u → u = cv) (hk : PySem.W.kitOne K (.ref C) cv = some b) : EvR (tCB (rIsX K) (tCons ta (tCons (tC c) tNil))) σ B (.bl b) := fun H1 e Q q => h H1 e _ fun v B2 H2 n rv => by
  cases rv with
  | exc hE => exact ⟨_, C, c, cv, b, rfl, hE.mono n.sub, ec, hcv, hk, q _ B2 H2 n (.bl b)⟩
end
/-- an own error class whose __init__ keeps its argument in the field place -/
structure TextC (K : PySem.W.Frag) (C fI : Addr) : Prop where
  o : OexC K C
  iC : PySem.W.findIn K (.ref C) "__init__" = some (some (.ref fI))
  tI : PySem.W.typeIn K (.ref fI) = some (.type "function")
  no : PySem.W.findIn K (.ref C) "place" = some none
  xf : XfC K C
/-- a promise of such an __init__ -/
def spInit (K : PySem.W.Frag) : Sp := fun vs H Q _ => ∃ (a C : Addr) (x : V), vs = [.ref a, x] ∧ OexC K C ∧ PySem.W.findIn K (.ref C) "place" = some none ∧ H a = some (exo a C none) ∧
  ∀ dx, H dx = none → dx ≠ a → Q .non (upd (upd H dx (exd dx [("place", x)])) a (exo a C (some dx)))
/-- C(e), C(place=e) as a value -/
def tMkV (K : PySem.W.Frag) (C : Addr) (ta : TA) : TE := fun σ H Q => ta σ H fun vs H1 => ∃ x, vs = [x] ∧ ∀ a dx, H1 a = none → H1 dx = none → dx ≠ a → Q (.ref a) (upd (upd H1 dx (exd dx [("place", x)])) a (exo a C (some dx)))
section
variable {X : Cx} {x : Str} {C fI : Addr} {k : Nat} {fd : FuncData} {e : Expr} {ta : TA} {p pos : Pos}
theorem upd_swap {H : Hp} {a b : Addr} {u v w : HO} (h : a ≠ b) : upd (upd (upd H a u) b v) a w = upd (upd H b v) a w := by
  funext c
  by_cases h1 : c = a
  · subst h1; rw [upd_same, upd_same]
  · by_cases h2 : c = b
    · subst h2; rw [upd_ne h1, upd_same, upd_ne h1, upd_same]
    · rw [upd_ne h1, upd_ne h2, upd_ne h1, upd_ne h1, upd_ne h2]
theorem init_asked {K : PySem.W.Frag} {H1 : Hp} {a : Addr} {y : V} {Q : VK} (o : OexC K C) (no : PySem.W.findIn K (.ref C) "place" = some none) (hn : H1 a = none) (q : ∀ a dx, H1 a = none → H1 dx = none → dx ≠ a → Q (.ref a) (upd (upd H1 dx (exd dx [("place", y)])) a (exo a C (some dx)))) :
    spInit K [.ref a, y] (upd H1 a (exo a C none)) (fun v H2 => v = .non ∧ Q (.ref a) H2) fun _ _ _ => False := by
  refine ⟨a, C, y, rfl, o, no, upd_same, fun dx hd ne => ⟨rfl, ?_⟩⟩
  rw [upd_swap (Ne.symm ne)]
  refine q a dx hn ?_ ne
  rw [upd_ne ne] at hd
  exact hd
theorem pe_oexV (T : TextC X.K C fI) (F : FnG X.prog X.w X.K X.mg X.base CX0 k fI fd ["self", "place"] (spInit X.K)) (g : X.A.guards = some []) (room : Room (k + 1) X.A) (hb : Binds X.K fd ["self", "place"] []) (glob : Gl X x) (at_ : X.mg x = some (.ref C)) (ha : PA X [e] ta)
    (nd : (x == ("__debug__" : Str)) = false := by decide) (he : starEach [e] X.env = (false, eval e X.env) :: starEach [] X.env := by rfl) (plain : (backTo pos (starEach [] X.env)).any (·.1) = false := by rfl) :
    PE X (.Call (.Name x p) [e] [] pos) (tMkV X.K C ta) := by
  constructor
  intro pins s σ H Q I h
  obtain ⟨nm, q, N, bs, bm, sn, sub, ab, col, dd, k0, k1, k2, k3, k5, hC, hbm⟩ := T.o.cls
  apply wpAny_Call_Name_kw (ld_glob I glob at_ _ nd)
  refine PySem.W.callWith_K (h₀ := X.base) I.ok.mod.kin T.o.kC (thn (ha.run pos pins s σ H _ I h) ?_) he plain
  rintro us s1 ⟨vs, H1, I1, r1, y, rfl, q1⟩
  refine ⟨I1.kIn, ?_⟩
  obtain ⟨hp, gs, dr, tk, os⟩ := s1
  have fr : H1 (hp.objs.size + 1) = none := I1.hok.fresh (Nat.le_succ _)
  have asked := init_asked (y := y) T.o T.no fr q1
  have older : ∀ b o, hp.get? b = some o → ((hp.push (PySem.W.kdv_tup us)).push (PySem.HandSPX.excO C hp.objs.size)).get? b = some o := fun b o z => Heap.get?_push_of_some _ (Heap.get?_push_of_some _ z)
  have stands : ((hp.push (PySem.W.kdv_tup us)).push (PySem.HandSPX.excO C hp.objs.size)).get? (hp.objs.size + 1) = some (PySem.HandSPX.excO C hp.objs.size) := by heap_get
  have I2 := I1.laid (t' := tk) (a := hp.objs.size + 1) (o := exo (hp.objs.size + 1) C none) (h' := (hp.push (PySem.W.kdv_tup us)).push (PySem.HandSPX.excO C hp.objs.size)) older (Nat.le_succ _) (exo_ok stands)
  have hl : us.length = 1 := r1.length.symm
  have r2 : Vals [V.ref (hp.objs.size + 1), y] (Value.ref (hp.objs.size + 1) :: us) := .cons rfl r1
  have bound := hb ⟨(hp.push (PySem.W.kdv_tup us)).push (PySem.HandSPX.excO C hp.objs.size), gs, dr, tk, os⟩ (Value.ref (hp.objs.size + 1) :: us) I2.kIn (by simp [hl])
  rw [List.append_nil] at bound
  have hs : us.length ≤ sizeLine := by rw [hl, sizeLine_eq]; omega
  refine (show wpAny _ _ (call (.ref C) us) _ _ _ from ?_)
  refine wpAny_call (PySem.HandSPX.call_own PySem.F.excBase_ValueError (fun Y => PySem.HandSPX.refsVE_contains Y bm hbm) (I1.kIn _ _ hC) (PySem.W.looks_findIn I1.kIn T.iC) (fun self => PySem.W.bind_fn I1.kIn self T.tI) hs
    (codeAny_mono (F.goes (X.A.under (.builtin "type.__call__" ⟨.ref C :: us, []⟩)) g (room.make C us []) X.stack _ _ (I2.env0.make C us []) ⟨Value.ref (hp.objs.size + 1) :: us, []⟩ _ _ bound r2 _ _ asked) fun r s' hq => ?_))
  match r, hq with
  | .error z, hq => exact pass0 pins σ _ _ z s' I2 hq
  | .ok .next, hq => exact hq.elim
  | .ok .brk, hq => exact hq.elim
  | .ok .cont, hq => exact hq.elim
  | .ok (.ret u), hq =>
    obtain ⟨v, H', I3, rv, ev, q3⟩ := I2.after hq
    subst ev
    exact ⟨rv, ⟨V.ref (hp.objs.size + 1), H', I3, rfl, q3⟩⟩
theorem pe_oexVK {gg : List Value → List Value → List Value} {gV : List V → List V → List V} {kws : List Keyword} (T : TextC X.K C fI) (F : FnG X.prog X.w X.K X.mg X.base CX0 k fI fd ["self", "place"] (spInit X.K)) (g : X.A.guards = some []) (room : Room (k + 1) X.A)
    (hb : KBinds X.K fd ["self", "place"] ["place"] gg gV) (hV : ∀ a y, gV [a] [y] = [a, y]) (hG : ∀ a w : Value, (gg [a] [w]).length = 2) (glob : Gl X x) (at_ : X.mg x = some (.ref C)) (hk : PK X kws ta)
    (all : (backToKw pos (keywordEach kws X.env)).all (·.1.isSome) = true := by rfl) (names : (backToKw pos (keywordEach kws X.env)).filterMap (·.1) = (["place"] : List Str) := by rfl) (nd : (x == ("__debug__" : Str)) = false := by decide)
    (plain : ((backTo pos (starEach [] X.env)).any (·.1) || (backToKw pos (keywordEach kws X.env)).any (·.1.isNone)) = false := by rfl) :
    PE X (.Call (.Name x p) [] kws pos) (tMkV X.K C ta) := by
  constructor
  intro pins s σ H Q I h
  obtain ⟨nm, q, N, bs, bm, sn, sub, ab, col, dd, k0, k1, k2, k3, k5, hC, hbm⟩ := T.o.cls
  apply wpAny_Call_Name_kw (ld_glob I glob at_ _ nd)
  refine PySem.W.callWith_KW0 (h₀ := X.base) I.ok.mod.kin T.o.kC all (thn (hk.run pos pins s σ H _ I h) ?_) plain
  rintro ws s1 ⟨zs, H1, I1, r1, y, rfl, q1⟩
  rw [names]
  obtain ⟨z, rfl⟩ : ∃ z, ws = [z] := by
    cases r1 with | cons a b => cases b; exact ⟨_, rfl⟩
  refine ⟨I1.kIn, ?_⟩
  obtain ⟨hp, gs, dr, tk, os⟩ := s1
  have fr : H1 (hp.objs.size + 1) = none := I1.hok.fresh (Nat.le_succ _)
  have asked := init_asked (y := y) T.o T.no fr q1
  have older : ∀ b o, hp.get? b = some o → ((hp.push (PySem.W.kdv_tup [])).push (PySem.HandSPX.excO C hp.objs.size)).get? b = some o := fun b o z => Heap.get?_push_of_some _ (Heap.get?_push_of_some _ z)
  have stands : ((hp.push (PySem.W.kdv_tup [])).push (PySem.HandSPX.excO C hp.objs.size)).get? (hp.objs.size + 1) = some (PySem.HandSPX.excO C hp.objs.size) := by heap_get
  have I2 := I1.laid (t' := tk) (a := hp.objs.size + 1) (o := exo (hp.objs.size + 1) C none) (h' := (hp.push (PySem.W.kdv_tup [])).push (PySem.HandSPX.excO C hp.objs.size)) older (Nat.le_succ _) (exo_ok stands)
  have both := hb.rel (vs := [V.ref (hp.objs.size + 1)]) (us := [Value.ref (hp.objs.size + 1)]) (.cons rfl .nil) r1
  rw [hV] at both
  have bound := hb.to ⟨(hp.push (PySem.W.kdv_tup [])).push (PySem.HandSPX.excO C hp.objs.size), gs, dr, tk, os⟩ [Value.ref (hp.objs.size + 1)] [z] I2.kIn (hG _ _)
  refine (show wpAny _ _ (call (.ref C) [] _) _ _ _ from ?_)
  refine wpAny_call (callK_goes PySem.F.excBase_ValueError (fun Y => PySem.HandSPX.refsVE_contains Y bm hbm) (I1.kIn _ _ hC) (PySem.W.looks_findIn I1.kIn T.iC) (fun self => PySem.W.bind_fn I1.kIn self T.tI)
    (codeAny_mono (F.goes (X.A.under (.builtin "type.__call__" ⟨[.ref C], _⟩)) g (room.make C [] _) X.stack _ _ (I2.env0.make C [] _) ⟨[Value.ref (hp.objs.size + 1)], _⟩ _ _ bound both _ _ asked) fun r s' hq => ?_))
  match r, hq with
  | .error z, hq => exact pass0 pins σ _ _ z s' I2 hq
  | .ok .next, hq => exact hq.elim
  | .ok .brk, hq => exact hq.elim
  | .ok .cont, hq => exact hq.elim
  | .ok (.ret u), hq =>
    obtain ⟨v, H', I3, rv, ev, q3⟩ := I2.after hq
    subst ev
    exact ⟨rv, ⟨V.ref (hp.objs.size + 1), H', I3, rfl, q3⟩⟩
/-- e.place, e a held error with this field -/
def tPlace (K : PySem.W.Frag) (te : TE) : TE := fun σ H Q => te σ H fun y H1 => ∃ (a C dx fI : Addr) (v : V), y = .ref a ∧ TextC K C fI ∧ H1 a = some (exo a C (some dx)) ∧ H1 dx = some (exd dx [("place", v)]) ∧ Q v H1
theorem pe_place {o : Expr} {te : TE} (ho : PE X o te) (hb : attributeBase o "place" X.env (eval o X.env) = eval o X.env := by rfl) : PE X (.Attribute o "place" pos) (tPlace X.K te) := by
  constructor
  intro pins s σ H Q I h
  refine attr_of hb (thn (ho.run pins s σ H _ I h) ?_)
  rintro u s1 ⟨y, H1, I1, ry, a, C, dx, fI, v, rfl, T, ha, hd, q⟩
  cases (show u = Value.ref a from ry)
  obtain ⟨t1, hobj⟩ := exo_at I1.hok ha
  obtain ⟨mA, hns, rel⟩ := exd_at I1.hok hd
  obtain ⟨od, hod, look⟩ := lookIn_ns hns
  have here : List.lookup ("place" : Str) [(("place" : Str), v)] = some v := by simp [List.lookup]
  obtain ⟨w, hw, rw'⟩ := RelO.some_of (v := v) (o := mA "place") (by rw [← here]; exact rel "place")
  have J : PySem.W.InstAt s1.heap a _ C (some od) := ⟨hobj, rfl, rfl, hod⟩
  exact HandSPX.exc_get I1.kIn J T.xf.ga T.xf.gg T.xf.exC (PySem.W.findObj_own T.xf.hdC T.no rfl (by rw [look, hw])) (handed_of rw') ⟨v, H1, I1.tok _, rw', q⟩
end
/-- "9" * 30 -/
def rNines : R2 := fun x y H Q => x = .str "9" ∧ y = .int 30 ∧ Q (.str ⟨(List.replicate 30 ("9" : Str).cps).foldl (· ++ ·) #[]⟩) H
theorem op_nines {X : Cx} : OpR X (binaryOp .Mult) rNines := by
  intro pins s σ H x y v u Q I rx ry h
  obtain ⟨rfl, rfl, q⟩ := h
  obtain ⟨t, rfl⟩ := rx
  obtain ⟨t', rfl⟩ := ry
  refine PySem.P.mul_str (by decide) (fun _ _ => by decide) (fun _ _ => by decide +kernel) ?_
  rw [if_neg (by decide), if_neg (by decide)]
  exact ⟨by decide +kernel, ⟨.str _, H, I.tok _, ⟨_, rfl⟩, q⟩⟩
theorem rv_nines : RV rNines (.str "9") (.int 30) (.str ⟨(List.replicate 30 ("9" : Str).cps).foldl (· ++ ·) #[]⟩) := fun B H1 v w e r1 r2 Q q => by
  cases r1; cases r2
  exact ⟨rfl, rfl, q _ B H1 (New.refl e) (.str _)⟩
theorem ev_nines {σ : L2.St} {B : Hp} : EvR (tOp rNines (tC (.str "9")) (tC (.int 30))) σ B (.str ⟨(List.replicate 30 ("9" : Str).cps).foldl (· ++ ·) #[]⟩) := ev_op ev_s ev_i rv_nines
end U

set_option maxHeartbeats 2000000
namespace U
open PySem PySem.Spec PyProof.Rows L2
/-- the signs of x and the items of the tuple at a, in new pairs -/
def ItS (K : PySem.W.Frag) (x : Str) (a : Addr) : It :=
  ⟨fun i H => ∃ ys : List V, SqT K H a ys ∧ i < min x.cps.size ys.length,
    fun i H v H' => ∃ (T : Addr) (c : Nat) (y : V), v = .ref T ∧ H T = none ∧ H' = upd H T (.tup [.str ⟨#[c]⟩, y]) ∧ x.cps[i]? = some c ∧ ∀ ys, SqT K H a ys → ys[i]? = some y,
    fun i H => ∃ ys : List V, SqT K H a ys ∧ i = min x.cps.size ys.length⟩
theorem wr_sub {b z TI TO i1 i2 : Addr} (m : b ∈ [z, TO, i1, i2]) : b ∈ [z, TI, TO, i1, i2] := by
  simp only [List.mem_cons, List.not_mem_nil, or_false] at m ⊢
  rcases m with rfl | rfl | rfl | rfl <;> simp
theorem turn_zipS {P : Program} {w : World} {K : PySem.W.Frag} {elts : List Expr} {kk : Nat} {tpos : Pos} {x : Str} {t : Tok} {a z TI TO i1 i2 : Addr} (S : ZipSep2 z TI TO i1 i2 [i1] [i2, a]) (ne : a ≠ i2) :
    Turn P w K (.Tuple elts kk tpos) (ItS K x a) [z, TI, TO, i1, i2] z (fun i h => IsZip h z TI TO .none ∧ IsTupOf2 h TI (.ref i1) (.ref i2) ∧ (∃ p q, IsTupOf2 h TO p q) ∧ h.IsStrIter i1 (strIterType x) x t i ∧ h.IsTupleIter i2 a i) where
  mem := by simp
  obj := by
    rintro i h ⟨hz, hI, ⟨p, q, hO⟩, ⟨o1, e1, _, d1⟩, ⟨o2, e2, _, d2⟩⟩ b hb
    simp only [List.mem_cons, List.not_mem_nil, or_false] at hb
    rcases hb with rfl | rfl | rfl | rfl | rfl
    · exact ⟨_, hz, fun v y => nomatch y⟩
    · exact ⟨_, hI, fun v y => nomatch y⟩
    · exact ⟨_, hO, fun v y => nomatch y⟩
    · exact ⟨o1, e1, fun v y => by rw [d1] at y; cases y⟩
    · exact ⟨o2, e2, fun v y => by rw [d2] at y; cases y⟩
  keep := by
    rintro i h h' ⟨hz, hI, ⟨p, q, hO⟩, ⟨o1, e1, r1⟩, h2⟩ k
    exact ⟨k z (by simp) _ hz, k TI (by simp) _ hI, ⟨p, q, k TO (by simp) _ hO⟩, ⟨o1, k i1 (by simp) _ e1, r1⟩, h2.at fun o y => k i2 (by simp) o y⟩
  item := by
    rintro X rfl rfl rfl hc i pins s σ H E I hf ⟨hz, hI, hO, h1, h2⟩ ⟨ys, hq, hi⟩
    obtain ⟨its, rv, tup, _⟩ := I.tuple hq
    have hl := rv.length
    have G := GoesN.zip2 (elts := elts) (x1 := kk) (pos := tpos) S (Draws.text (A := X.A.in1) (prog := X.prog) (w := X.w) (I.ok.hd hc) i1 x t) (Draws.tuple (A := X.A.in1) (prog := X.prog) (w := X.w) (I.ok.hd hc) i2 a ne its.toArray)
    have olds : ∀ b ∈ [z, TI, TO, i1, i2], b < s.heap.objs.size := by
      intro b hb
      obtain ⟨p, q, hO⟩ := hO
      obtain ⟨o1, e1, _⟩ := h1
      obtain ⟨o2, e2, _⟩ := h2
      simp only [List.mem_cons, List.not_mem_nil, or_false] at hb
      rcases hb with rfl | rfl | rfl | rfl | rfl
      · exact Heap.lt_size hz
      · exact Heap.lt_size hI
      · exact Heap.lt_size hO
      · exact Heap.lt_size e1
      · exact Heap.lt_size e2
    refine wpAny_mono (G.goes i s (fun v s2 => ∃ y H', Inv X pins σ H' s2 ∧ RelV y v ∧ (ItS X.K x a).yld i H y H' ∧ (IsZip s2.heap z TI TO .none ∧ IsTupOf2 s2.heap TI (.ref i1) (.ref i2) ∧ (∃ p q, IsTupOf2 s2.heap TO p q) ∧ s2.heap.IsStrIter i1 (strIterType x) x t (i + 1) ∧ s2.heap.IsTupleIter i2 a (i + 1)) ∧ ∀ b ∈ [z, TI, TO, i1, i2], H' b = none) E (by simpa [hl] using hi) ⟨hz, hI, hO, h1, h2, tup⟩ ?_) (fun _ _ y => y) fun _ _ y => y
    rintro v h' tk ⟨T, vx, vy, rfl, hT, ⟨c, u, hx, rfl⟩, hy, hTt⟩ ⟨hz', hI', hO', h1', h2', _⟩ kept _
    have hT' : its[i]? = some vy := by simpa using hy
    obtain ⟨y, hyv, ry⟩ : ∃ y, ys[i]? = some y ∧ RelV y vy := by
      have hi2 : i < ys.length := by omega
      obtain ⟨u2, g1, g2⟩ := rv.get (List.getElem?_eq_getElem hi2)
      rw [hT'] at g1
      cases g1
      exact ⟨_, List.getElem?_eq_getElem hi2, g2⟩
    have new : ObjOk X.prog X.w (upd H T (.tup [.str ⟨#[c]⟩, y])) h' T (.tup [.str ⟨#[c]⟩, y]) := ⟨(by show 2 ≤ sizeLine; rw [sizeLine_eq]; omega), [.str ⟨#[c]⟩ u, vy], .cons ⟨u, rfl⟩ (.cons ry .nil), hTt⟩
    have I1 := I.turnedNew (t' := tk) (ch := [z, TI, TO, i1, i2]) (h' := h') (T := T) (fun b o hb e => kept b o (fun m => hb (wr_sub m)) e) hf hT new
    refine ⟨.ref T, _, I1, rfl, ⟨T, c, y, rfl, I.hok.fresh hT, rfl, hx, fun zs hzs => by rw [I.tuple_inj hzs hq]; exact hyv⟩, ⟨hz', hI', hO', h1', h2'⟩, fun b hb => ?_⟩
    rw [upd_ne (Nat.ne_of_lt (Nat.lt_of_lt_of_le (olds b hb) hT))]
    exact (hf b hb).1
  done := by
    rintro X rfl rfl rfl hc i pins s σ H E I hf ⟨hz, hI, hO, h1, h2⟩ ⟨ys, hq, rfl⟩
    obtain ⟨its, rv, tup, _⟩ := I.tuple hq
    have hl := rv.length
    have G := GoesN.zip2 (elts := elts) (x1 := kk) (pos := tpos) S (Draws.text (A := X.A.in1) (prog := X.prog) (w := X.w) (I.ok.hd hc) i1 x t) (Draws.tuple (A := X.A.in1) (prog := X.prog) (w := X.w) (I.ok.hd hc) i2 a ne its.toArray)
    have en : min x.cps.size its.toArray.size = min x.cps.size ys.length := by simp [hl]
    refine G.stops s (fun s1 => Inv X pins σ H s1) E (by rw [en]; exact ⟨hz, hI, hO, h1, h2, tup⟩) fun h' tk kept _ => ?_
    exact I.turnedL (t' := tk) (ch := [z, TI, TO, i1, i2]) (fun b o hb e => kept b o (fun m => hb (wr_sub m)) e) hf
  self := fun A i s Q E st h => wpAny_pyIter_zip st.1 h
def iZipS (K : PySem.W.Frag) (ta : TA) : TI := fun σ H R => ta σ H fun vs H1 => ∃ x a ys, vs = [.str x, .ref a] ∧ SqT K H1 a ys ∧ R (ItS K x a) H1
theorem pi_zipS {X : Cx} {e e2 : Expr} {ta : TA} {p pos tpos : Pos} {elts : List Expr} {kk : Nat} (hg : Gl X "zip") (hm : X.mg "zip" = none) (ha : PA X [e, e2] ta)
    (hs : starEach [e, e2] X.env = (false, eval e X.env) :: starEach [e2] X.env := by rfl) (hpl : (backTo pos (starEach [e2] X.env)).any (·.1) = false := by rfl) :
    PI X (.Tuple elts kk tpos) (.Call (.Name "zip" p) [e, e2] [] pos) (iZipS X.K ta) := by
  constructor
  intro pins s σ H R I h
  refine Call_ (ld_blt I hg hm PyProof.Rows.boot_zip (PyProof.Rows.callWith_type1 (thn (ha.run pos pins s σ H _ I h) ?_) hs hpl))
  rintro us s1 ⟨vs, H1, I1, r1, x, a, ys, rfl, hq, q⟩
  obtain ⟨u1, u2, rfl, rx, ra⟩ := vals2 r1
  obtain ⟨t, rfl⟩ := (show ∃ t, u1 = Value.str x t from rx)
  cases (show u2 = Value.ref a from ra)
  obtain ⟨its, rv, tup, _⟩ := I1.tuple hq
  have hal : a < s1.heap.objs.size := by obtain ⟨o, ho, _⟩ := tup; exact Heap.lt_size ho
  refine zip_begins2 (begins_text x t) (begins_tuple a its.toArray) True.intro tup fun h' hz hI hO h1 h2 hsz hk => wpAny_pyIter_zip hz ?_
  have I2 : Inv X pins σ H1 { s1 with heap := h' } := I1.kept (t' := s1.toks) hk
  have S := zip_sep2 (N := s1.heap.objs.size) (fp1 := []) (fp2 := [a]) (fun b hb => nomatch hb) (fun b hb => by rw [List.mem_singleton.mp hb]; exact hal)
  refine ⟨s1.heap.objs.size + 4, [s1.heap.objs.size + 4, s1.heap.objs.size + 2, s1.heap.objs.size + 3, s1.heap.objs.size, s1.heap.objs.size + 1], _, _, H1, rfl, I2, turn_zipS (t := t) S (Nat.ne_of_lt (Nat.lt_succ_of_lt hal)), ⟨hz, hI, ⟨_, _, hO⟩, ⟨_, h1, rfl, rfl⟩, ⟨_, h2, rfl, rfl⟩⟩, fun b hb => ?_, q⟩
  have hle : s1.heap.objs.size ≤ b := by
    simp only [List.mem_cons, List.not_mem_nil, or_false] at hb
    rcases hb with rfl | rfl | rfl | rfl | rfl
    · exact Nat.le_add_right _ _
    · exact Nat.le_add_right _ _
    · exact Nat.le_add_right _ _
    · exact Nat.le_refl _
    · exact Nat.le_add_right _ _
  exact I1.fpOk hle (I1.hok.fresh hle)
theorem k_zipS {K : PySem.W.Frag} {X : Cx} {e e2 : Expr} {ta : TA} {p pos tpos : Pos} {elts : List Expr} {kk : Nat} (h : X.K = K) (hg : Gl X "zip") (hm : X.mg "zip" = none) (ha : PA X [e, e2] ta)
    (hs : starEach [e, e2] X.env = (false, eval e X.env) :: starEach [e2] X.env := by rfl) (hpl : (backTo pos (starEach [e2] X.env)).any (·.1) = false := by rfl) :
    PI X (.Tuple elts kk tpos) (.Call (.Name "zip" p) [e, e2] [] pos) (iZipS K ta) := h ▸ pi_zipS hg hm ha hs hpl
theorem walk_zipS {K : PySem.W.Frag} {x : Str} {a : Addr} {ys : List V} : Walk (ItS K x a) (min x.cps.size ys.length) (fun H => SqT K H a ys) (YPair (fun i => x.cps[i]?.map fun c => .str ⟨#[c]⟩) (fun i => ys[i]?)) :=
  ⟨fun i H hi q => ⟨ys, q, hi⟩, fun H q => ⟨ys, q, rfl⟩, fun i H v H' hi q y => by
    obtain ⟨T, c, y, h1, h2, h3, h4, h5⟩ := y
    exact ⟨T, _, y, h1, h2, h3, by show (x.cps[i]?).map _ = _; rw [h4]; rfl, h5 ys q⟩⟩
end U

set_option maxHeartbeats 1000000
namespace U
open PySem PySem.Spec PyProof.Rows
abbrev LIt (l : Addr) : Obj := { cls := .type "list_iterator", data := .fields #[.ref l, .int 0 0] }
/-- one list iterator each, new -/
def pushIts (h : Heap) : List Addr → Heap
  | [] => h
  | l :: ls => pushIts (h.push (LIt l)) ls
def itsAt (n : Nat) : List Addr → List Value
  | [] => []
  | _ :: ls => .ref n :: itsAt (n + 1) ls
theorem pushIts_keep {b : Addr} {o : Obj} : ∀ (ls : List Addr) {h : Heap}, h.get? b = some o → (pushIts h ls).get? b = some o
  | [], _, e => e
  | _ :: ls, _, e => pushIts_keep ls (Heap.get?_push_of_some _ e)
theorem pushIts_size : ∀ (ls : List Addr) (h : Heap), (pushIts h ls).objs.size = h.objs.size + ls.length
  | [], h => rfl
  | l :: ls, h => by rw [pushIts, pushIts_size ls, Heap.size_push, List.length_cons]; omega
section
variable {prog : Program} {w : World} {A : Around} {Z : Value → Shared → Prop}
theorem iterAll_go : ∀ (ls : List Addr) (acc : Array Value) (s : Shared) (G : Array Value → Shared → Prop), (∀ l ∈ ls, ∃ its : Array Value, s.heap.IsList l its) → G (acc ++ (itsAt s.heap.objs.size ls).toArray) { s with heap := pushIts s.heap ls } →
    wpAny (model prog w) A (forIn (ls.map Value.ref) acc (fun x r => do
      let it ← holding r.toList (pyIter x)
      pure (ForInStep.yield (r.push it)))) G Z s
  | [], acc, s, G, _, g => by
    rw [List.map_nil, List.forIn_nil]
    exact wpAny_pure (by simpa [itsAt, pushIts] using g)
  | l :: ls, acc, s, G, hl, g => by
    rw [List.map_cons, List.forIn_cons]
    obtain ⟨its, hi⟩ := hl l List.mem_cons_self
    refine wpAny_bind (wpAny_bind (wpAny_holding (wpAny_pyIter_list hi (wpAny_pure ?_))))
    refine iterAll_go ls (acc.push (.ref s.heap.objs.size)) { s with heap := s.heap.push (LIt l) } G (fun k hk => ?_) ?_
    · obtain ⟨its, hi⟩ := hl k (List.mem_cons_of_mem _ hk)
      exact ⟨its, hi.push _⟩
    · have e : (s.heap.push (LIt l)).objs.size = s.heap.objs.size + 1 := Heap.size_push ..
      rw [show ({ s with heap := s.heap.push (LIt l) } : Shared).heap.objs.size = s.heap.objs.size + 1 from e]
      have : acc.push (.ref s.heap.objs.size) ++ (itsAt (s.heap.objs.size + 1) ls).toArray = acc ++ (itsAt s.heap.objs.size (l :: ls)).toArray := by simp [itsAt]
      rw [this]
      exact g
theorem iterAll_lists {ls : List Addr} {s : Shared} {G : List Value → Shared → Prop} (hl : ∀ l ∈ ls, ∃ its : Array Value, s.heap.IsList l its) (g : G (itsAt s.heap.objs.size ls) { s with heap := pushIts s.heap ls }) :
    wpAny (model prog w) A (Builtin.SmallTypes.iterAll (ls.map Value.ref)) G Z s := by
  unfold Builtin.SmallTypes.iterAll
  refine wpAny_bind (iterAll_go ls #[] s _ hl (wpAny_pure ?_))
  simpa using g
end
theorem zn_new (l : List Value) (h : l.length ≤ 24) : checkBuiltinCall "zip.__new__" ⟨.type "zip" :: l, []⟩ = pure () := by
  rcases l with _ | ⟨a1, _ | ⟨a2, _ | ⟨a3, _ | ⟨a4, _ | ⟨a5, _ | ⟨a6, _ | ⟨a7, _ | ⟨a8, _ | ⟨a9, _ | ⟨a10, _ | ⟨a11, _ | ⟨a12, _ | ⟨a13, _ | ⟨a14, _ | ⟨a15, _ | ⟨a16, _ | ⟨a17, _ | ⟨a18, _ | ⟨a19, _ | ⟨a20, _ | ⟨a21, _ | ⟨a22, _ | ⟨a23, _ | ⟨a24, _ | ⟨a25, l⟩⟩⟩⟩⟩⟩⟩⟩⟩⟩⟩⟩⟩⟩⟩⟩⟩⟩⟩⟩⟩⟩⟩⟩⟩
  all_goals first
    | kernel_rfl
    | (simp only [List.length_cons] at h; omega)
theorem zn_init (b : Value) (l : List Value) (h : l.length ≤ 24) : argsOk "object.__init__" ⟨b :: l, []⟩ := by
  unfold argsOk
  rw [signature?_of (id := "object.__init__") (n := ['_', '_', 't', 'i', 'n', 'i', '_', '_']) (o := ['t', 'c', 'e', 'j', 'b', 'o']) (by kernel_rfl) F.owner_object]
  rcases l with _ | ⟨a1, _ | ⟨a2, _ | ⟨a3, _ | ⟨a4, _ | ⟨a5, _ | ⟨a6, _ | ⟨a7, _ | ⟨a8, _ | ⟨a9, _ | ⟨a10, _ | ⟨a11, _ | ⟨a12, _ | ⟨a13, _ | ⟨a14, _ | ⟨a15, _ | ⟨a16, _ | ⟨a17, _ | ⟨a18, _ | ⟨a19, _ | ⟨a20, _ | ⟨a21, _ | ⟨a22, _ | ⟨a23, _ | ⟨a24, _ | ⟨a25, l⟩⟩⟩⟩⟩⟩⟩⟩⟩⟩⟩⟩⟩⟩⟩⟩⟩⟩⟩⟩⟩⟩⟩⟩⟩
  all_goals first
    | kernel_rfl
    | (simp only [List.length_cons] at h; omega)
/-- what zip(l1, .., ln) leaves -/
abbrev zI (h : Heap) (ls : List Addr) : Heap := (pushIts h ls).push { cls := .type "tuple", data := .seq (itsAt h.objs.size ls).toArray }
abbrev zO (h : Heap) (ls : List Addr) : Heap := (zI h ls).push { cls := .type "tuple", data := .seq ((itsAt h.objs.size ls).map fun _ => Value.none).toArray }
abbrev zZ (h : Heap) (ls : List Addr) : Heap := (zO h ls).push { cls := .type "zip", data := .fields #[.none, .bool false, .bool false, .ref (pushIts h ls).objs.size, .ref (zI h ls).objs.size] }
theorem meets_zipN (ls : List Addr) : Meets (Builtin.«zip.__new__» ⟨.type "zip" :: ls.map Value.ref, []⟩) (fun _ R s => (∀ l ∈ ls, ∃ its : Array Value, s.heap.IsList l its) ∧ ls.length ≤ 24 ∧
      R (.ok (.ret (.ref (zO s.heap ls).objs.size))) { s with heap := zZ s.heap ls }) :=
  .of_wp fun prog w A R s h => by
    obtain ⟨hp, g, d, tk, os⟩ := s
    obtain ⟨hl, hn, h⟩ := h
    have hsub := sub_zip
    have hfit : (itsAt hp.objs.size ls).length ≤ sizeLine := by
      have e : ∀ (ls : List Addr) n, (itsAt n ls).length = ls.length := by
        intro ls
        induction ls with
        | nil => intro n; rfl
        | cons a ls ih => intro n; rw [itsAt, List.length_cons, ih, List.length_cons]
      rw [e, sizeLine_eq]; omega
    have hfit2 : ((itsAt hp.objs.size ls).map fun _ => Value.none).length ≤ sizeLine := by rw [List.length_map]; exact hfit
    wp_walk using iterAll_lists hl
    exact ⟨_, rfl, h⟩
section
variable {prog : Program} {w : World} {A : Around} {Z : Value → Shared → Prop}
theorem forIn_idx {α β : Type} {f : α → β → Sem (ForInStep β)} {L : List α} {b0 : β} {s : Shared} {G : β → Shared → Prop} (P : Nat → β → Shared → Prop) (h0 : P 0 b0 s)
    (step : ∀ k x b s', L[k]? = some x → P k b s' → wpAny (model prog w) A (f x b) (fun st s'' => ∃ b', st = ForInStep.yield b' ∧ P (k + 1) b' s'') Z s') (fin : ∀ b s', P L.length b s' → G b s') :
    wpAny (model prog w) A (forIn L b0 f) G Z s := by
  have go : ∀ (r : List α) (k : Nat) (b : β) (s' : Shared), L.drop k = r → k ≤ L.length → P k b s' → wpAny (model prog w) A (forIn r b f) G Z s' := by
    intro r
    induction r with
    | nil =>
      intro k b s' hd hk p
      rw [List.forIn_nil]
      have e : k = L.length := by
        have := congrArg List.length hd
        rw [List.length_drop, List.length_nil] at this
        omega
      subst e
      exact wpAny_pure (fin b s' p)
    | cons x r ih =>
      intro k b s' hd hk p
      have hlt : k < L.length := by
        have := congrArg List.length hd
        rw [List.length_drop, List.length_cons] at this
        omega
      have hx : L[k]? = some x := by
        have := congrArg (fun l : List α => l[0]?) hd
        simpa using this
      have hr : L.drop (k + 1) = r := by
        rw [← List.drop_drop, hd]
        rfl
      rw [List.forIn_cons]
      refine wpAny_bind (wpAny_mono (step k x b s' hx p) (fun st s'' h => ?_) fun _ _ y => y)
      obtain ⟨b', rfl, p'⟩ := h
      exact ih (k + 1) b' s'' hr hlt p'
  exact go L 0 b0 s rfl (Nat.zero_le _) h0
/-- what the iterators stand at: those before k at c + 1, the others at c -/
structure ItsSt (h : Heap) (n : Nat) (it l : Nat → Addr) (row : Nat → Array Value) (c k : Nat) : Prop where
  it : ∀ j, j < n → h.IsListIter (it j) (l j) (if j < k then c + 1 else c)
  row : ∀ j, j < n → h.IsList (l j) (row j)
/-- the addresses stand apart -/
structure Apart (n : Nat) (it l : Nat → Addr) (z TI TO : Addr) : Prop where
  ii : ∀ i j, i < n → j < n → i ≠ j → it i ≠ it j
  il : ∀ i j, i < n → j < n → l i ≠ it j
  iz : ∀ i, i < n → it i ≠ z
  lz : ∀ i, i < n → l i ≠ z
  iT : ∀ i, i < n → it i ≠ TI
  iO : ∀ i, i < n → it i ≠ TO
  lO : ∀ i, i < n → l i ≠ TO
  Tz : TI ≠ z
  Oz : TO ≠ z
  TO_ : TI ≠ TO
abbrev ZRec (h : Heap) (z TI TO : Addr) (f0 f1 : Value) : Prop := h.get? z = some { cls := .type "zip", data := .fields #[f0, f1, .bool false, .ref TI, .ref TO] }
def refsOf (n : Nat) (it : Nat → Addr) : List Value := (List.range n).map fun j => .ref (it j)
def colOf (n : Nat) (row : Nat → Array Value) (c : Nat) : List Value := (List.range n).map fun j => (row j)[c]?.getD .none
variable {s : Shared} {n c : Nat} {it l : Nat → Addr} {row : Nat → Array Value} {z TI TO : Addr} {f0 f1 : Value}
theorem ItsSt.over {h h' : Heap} {k : Nat} {b : Addr} (S : ItsSt h n it l row c k) (e : Heap.ExtBut b h h') (h1 : ∀ j, j < n → it j ≠ b) (h2 : ∀ j, j < n → l j ≠ b) : ItsSt h' n it l row c k :=
  ⟨fun j hj => (S.it j hj).extBut e (h1 j hj), fun j hj => (S.row j hj).extBut e (h2 j hj)⟩
theorem ItsSt.step {h h' : Heap} {k : Nat} (D : Apart n it l z TI TO) (hk : k < n) (S : ItsSt h n it l row c k) (hi : h'.IsListIter (it k) (l k) (c + 1)) (e : Heap.SameBut (it k) h h') : ItsSt h' n it l row c (k + 1) where
  it := fun j hj => by
    by_cases hjk : j = k
    · subst hjk
      rw [if_pos (Nat.lt_succ_self _)]
      exact hi
    · have h1 := (S.it j hj).extBut e.extBut (D.ii j k hj hk hjk)
      have h2 : (j < k + 1) = (j < k) := propext ⟨fun z => by omega, fun z => by omega⟩
      simp only [h2]
      exact h1
  row := fun j hj => (S.row j hj).extBut e.extBut (D.il j k hj hk)
theorem wp_alive {M : Model} {a : Addr} {Q : Option Obj → Shared → Prop} (h : Q (s.heap.get? a) s) : wpAny M A (loadIfAlive a) Q Z s := fun Γ p _ => h
/-- a later turn: the tuple that was handed out first still stands -/
theorem zipN_later {f0a : Addr} {o0 : Obj} {Q : Value → Shared → Prop} (D : Apart n it l z TI TO) (hn : 0 < n) (h24 : n ≤ 24) (hz : ZRec s.heap z TI TO (rawInt f0a) f1) (hf1 : f1 = .bool true ∨ f1 = .bool false) (ha : s.heap.get? f0a = some o0) (hI : s.heap.get? TI = some { cls := .type "tuple", data := .seq (refsOf n it).toArray })
    (S : ItsSt s.heap n it l row c 0) (hc : ∀ j, j < n → c < (row j).size)
    (hQ : ∀ h', ZRec h' z TI TO (rawInt f0a) (.bool true) → ItsSt h' n it l row (c + 1) 0 → h'.get? s.heap.objs.size = some { cls := .type "tuple", data := .seq (colOf n row c).toArray } → h'.objs.size = s.heap.objs.size + 1 →
      (∀ b o, b ≠ z → (∀ j, j < n → b ≠ it j) → s.heap.get? b = some o → h'.get? b = some o) → Q (.ref s.heap.objs.size) { s with heap := h' }) :
    wpAny (model prog w) A (Builtin.«zip.__next__» ⟨[.ref z], []⟩) (fun fin s' => ∃ v, fin = .done (.ret v) ∧ Q v s') Z s := by
  refine (show wpAny _ _ (field (.ref z) 2 >>= _) _ _ _ from wpAny_bind (wpAny_field hz rfl (x := .bool false) rfl ?_))
  refine (show wpAny _ _ (field (.ref z) 3 >>= _) _ _ _ from wpAny_bind (wpAny_field hz rfl (x := .ref TI) rfl ?_))
  refine wpAny_bind (wpAny_seqItems hI rfl ?_)
  dsimp only
  rw [if_neg (by simp [refsOf]; omega)]
  refine wpAny_bind ?_
  unfold Builtin.SmallTypes.ownedTupleIsFree
  refine wpAny_bind (wpAny_field hz rfl (x := rawInt f0a) rfl ?_)
  refine (show wpAny _ _ (loadIfAlive f0a >>= _) _ _ _ from wpAny_bind (wp_alive ?_))
  rw [ha]
  -- the body behind it, whichever way field 1 stands
  have rest : ∀ s1 : Shared, ZRec s1.heap z TI TO (rawInt f0a) (.bool true) → ItsSt s1.heap n it l row c 0 → s1.heap.objs.size = s.heap.objs.size → (∀ b o, b ≠ z → s.heap.get? b = some o → s1.heap.get? b = some o) → s1 = { s with heap := s1.heap } →
      ∀ f : Value → Option PySem.Fin × Array Value → Sem (ForInStep (Option PySem.Fin × Array Value)), (∀ v r (G : ForInStep (Option PySem.Fin × Array Value) → Shared → Prop) s', wpAny (model prog w) A (holding r.2.toList (do return some (← Builtin.SmallTypes.nextOf v))) (fun d s'' => ∃ x, d = some x ∧ G (.yield (none, r.2.push x)) s'') Z s' → wpAny (model prog w) A (f v r) G Z s') →
      wpAny (model prog w) A (forIn (refsOf n it) (none, #[]) f) (fun r s2 => r = (none, (colOf n row c).toArray) ∧ ItsSt s2.heap n it l row c n ∧ ZRec s2.heap z TI TO (rawInt f0a) (.bool true) ∧ s2.heap.objs.size = s.heap.objs.size ∧
        (∀ b o, b ≠ z → (∀ j, j < n → b ≠ it j) → s.heap.get? b = some o → s2.heap.get? b = some o) ∧ s2 = { s with heap := s2.heap }) Z s1 := by
    intro s1 hz1 S1 hsz kept hs1 f hf
    refine forIn_idx (fun k b s' => b = (none, ((colOf n row c).take k).toArray) ∧ k ≤ n ∧ ItsSt s'.heap n it l row c k ∧ ZRec s'.heap z TI TO (rawInt f0a) (.bool true) ∧ s'.heap.objs.size = s.heap.objs.size ∧
      (∀ b o, b ≠ z → (∀ j, j < n → b ≠ it j) → s.heap.get? b = some o → s'.heap.get? b = some o) ∧ s' = { s with heap := s'.heap }) ⟨by simp, Nat.zero_le _, S1, hz1, hsz, fun b o h1 _ e => kept b o h1 e, hs1⟩ ?_ ?_
    · rintro k v b s2 hv ⟨rfl, hk, S2, hz2, hsz2, kept2, hs2⟩
      have hlen : (refsOf n it).length = n := by simp [refsOf]
      have hkn : k < n := by
        have := (List.getElem?_eq_some_iff.mp hv).1
        omega
      have hvk : v = .ref (it k) := by
        have : (refsOf n it)[k]? = some (.ref (it k)) := by simp [refsOf, List.getElem?_map, List.getElem?_range hkn]
        rw [this] at hv
        exact (Option.some.inj hv).symm
      subst hvk
      apply hf
      have hx : (row k)[c]? = some ((row k)[c]'(hc k hkn)) := Array.getElem?_eq_getElem (hc k hkn)
      have ik := S2.it k hkn
      rw [if_neg (Nat.lt_irrefl k)] at ik
      refine wpAny_holding (wpAny_bind (wpAny_nextOf_list_item ik (S2.row k hkn) hx fun h' hi' sb => wpAny_pure ?_))
      refine ⟨_, rfl, _, rfl, ?_, hkn, S2.step D hkn hi' sb, (sb.2 z (D.iz k hkn).symm).trans hz2, sb.1.trans hsz2, fun b o h1 h2 e => (sb.2 b (h2 k hkn)).trans (kept2 b o h1 h2 e), by rw [hs2]⟩
      have hck : (colOf n row c)[k]? = some ((row k)[c]'(hc k hkn)) := by simp [colOf, List.getElem?_map, List.getElem?_range hkn, hx]
      rw [List.take_add_one, hck]
      simp
    · rintro b s2 ⟨rfl, hk, S2, hz2, hsz2, kept2, hs2⟩
      have hlen : (refsOf n it).length = n := by simp [refsOf]
      rw [hlen] at S2 ⊢
      have hcl : (colOf n row c).take n = colOf n row c := List.take_of_length_le (by simp [colOf])
      rw [hcl]
      exact ⟨rfl, S2, hz2, hsz2, kept2, hs2⟩
  have tail : ∀ s2 : Shared, ItsSt s2.heap n it l row c n → ZRec s2.heap z TI TO (rawInt f0a) (.bool true) → s2.heap.objs.size = s.heap.objs.size → (∀ b o, b ≠ z → (∀ j, j < n → b ≠ it j) → s.heap.get? b = some o → s2.heap.get? b = some o) → s2 = { s with heap := s2.heap } →
      wpAny (model prog w) A (newTuple (colOf n row c).toArray.toList >>= fun t => ret t) (fun fin s' => ∃ v, fin = .done (.ret v) ∧ Q v s') Z s2 := by
    intro s2 S2 hz2 hsz2 kept2 hs2
    refine wpAny_bind (wpAny_newTuple ?_ (by rw [sizeLine_eq]; simp [colOf]; omega))
    refine wpAny_pure ⟨_, rfl, ?_⟩
    rw [hs2]
    refine (show Q (.ref s2.heap.objs.size) { s with heap := s2.heap.push _ } from ?_)
    rw [hsz2]
    refine hQ _ (Heap.get?_push_of_some _ hz2) ⟨fun j hj => ?_, fun j hj => (S2.row j hj).push _⟩ ?_ ?_ (fun b o h1 h2 e => Heap.get?_push_of_some _ (kept2 b o h1 h2 e))
    · have := S2.it j hj
      rw [if_pos hj] at this
      obtain ⟨o, ho, r⟩ := this
      exact ⟨o, Heap.get?_push_of_some _ ho, r⟩
    · have := Heap.get?_push_size s2.heap (o := ({ cls := .type "tuple", data := .seq (colOf n row c).toArray } : Obj)) rfl
      rw [hsz2] at this
      simpa using this
    · rw [Heap.size_push, hsz2]
  rw [if_neg (by simp)]
  refine wpAny_bind (wpAny_field hz rfl (x := f1) rfl ?_)
  rcases hf1 with rfl | rfl
  · rw [if_neg (by decide)]
    refine wpAny_pure ?_
    rw [if_neg Bool.false_ne_true, List.forIn_toArray]
    refine wpAny_bind (wpAny_mono (rest s hz S rfl (fun b o _ e => e) rfl _ ?_) (fun r s2 h => ?_) fun _ _ y => y)
    case refine_2 =>
      obtain ⟨rfl, h1, h2, h3, h4, h5⟩ := h
      exact tail s2 h1 h2 h3 h4 h5
    intro v r G s' h
    refine wpAny_bind (wpAny_mono h (fun d s'' hd => ?_) fun _ _ y => y)
    obtain ⟨x, rfl, g⟩ := hd
    exact wpAny_pure g
  · rw [if_pos (by decide)]
    refine wpAny_bind (wpAny_setField_rec hz (by simp) fun h' hz' sb => wpAny_pure ?_)
    rw [if_neg Bool.false_ne_true, List.forIn_toArray]
    refine wpAny_bind (wpAny_mono (rest { s with heap := h' } hz' (S.over sb.extBut (fun j hj => D.iz j hj) (fun j hj => D.lz j hj)) sb.1 (fun b o h1 e => (sb.2 b h1).trans e) rfl _ ?_) (fun r s2 h => ?_) fun _ _ y => y)
    case refine_2 =>
      obtain ⟨rfl, h1, h2, h3, h4, h5⟩ := h
      exact tail s2 h1 h2 h3 h4 h5
    intro v r G s' h
    refine wpAny_bind (wpAny_mono h (fun d s'' hd => ?_) fun _ _ y => y)
    obtain ⟨x, rfl, g⟩ := hd
    exact wpAny_pure g
end
section
variable {prog : Program} {w : World} {A : Around} {Z : Value → Shared → Prop} {s : Shared} {n c : Nat} {it l : Nat → Addr} {row : Nat → Array Value} {z TI TO : Addr} {f0 f1 : Value}
abbrev TupAt (h : Heap) (a : Addr) (vs : List Value) : Prop := h.get? a = some { cls := .type "tuple", data := .seq vs.toArray }
theorem tupAt_set {h : Heap} {a : Addr} {vs : List Value} {k : Nat} {x : Value} (t : TupAt h a vs) : TupAt (h.update a (Obj.mapSeq fun ys => ys.setIfInBounds k x)) a (vs.set k x) := by
  have := Heap.get?_update_self (Obj.mapSeq fun ys => ys.setIfInBounds k x) t rfl
  exact this.trans (by simp [Obj.mapSeq])
theorem set_next {α : Type} {xs ys : List α} {k : Nat} {x : α} (h : xs[k]? = some x) (e : xs.length = ys.length) : (xs.take k ++ ys.drop k).set k x = xs.take (k + 1) ++ ys.drop (k + 1) := by
  have hk : k < xs.length := (List.getElem?_eq_some_iff.mp h).1
  apply List.ext_getElem?
  intro j
  rw [List.getElem?_set]
  simp only [List.getElem?_append, List.length_take, List.getElem?_take, List.getElem?_drop, List.length_append, List.length_drop]
  by_cases h1 : k = j
  · subst h1
    rw [if_pos rfl, if_pos (by omega), if_pos (by omega), if_pos (by omega), h]
  · rw [if_neg h1]
    by_cases h2 : j < k
    · rw [if_pos (by omega), if_pos h2, if_pos (by omega), if_pos (by omega)]
    · rw [if_neg (by omega), if_neg (by omega)]
      congr 1
      omega
/-- the first turn -/
theorem zipN_first {ns : List Value} {Q : Value → Shared → Prop} (D : Apart n it l z TI TO) (hn : 0 < n) (h24 : n ≤ 24) (hz : ZRec s.heap z TI TO .none f1) (hI : s.heap.get? TI = some { cls := .type "tuple", data := .seq (refsOf n it).toArray }) (hO : TupAt s.heap TO ns) (hns : ns.length = n)
    (S : ItsSt s.heap n it l row c 0) (hc : ∀ j, j < n → c < (row j).size)
    (hQ : ∀ h', ZRec h' z TI TO (rawInt s.heap.objs.size) (.bool false) → ItsSt h' n it l row (c + 1) 0 → h'.get? s.heap.objs.size = some { cls := .type "tuple", data := .seq (colOf n row c).toArray } → h'.objs.size = s.heap.objs.size + 1 →
      (∀ b o, b ≠ z → b ≠ TO → (∀ j, j < n → b ≠ it j) → s.heap.get? b = some o → h'.get? b = some o) → Q (.ref s.heap.objs.size) { s with heap := h' }) :
    wpAny (model prog w) A (Builtin.«zip.__next__» ⟨[.ref z], []⟩) (fun fin s' => ∃ v, fin = .done (.ret v) ∧ Q v s') Z s := by
  refine (show wpAny _ _ (field (.ref z) 2 >>= _) _ _ _ from wpAny_bind (wpAny_field hz rfl (x := .bool false) rfl ?_))
  refine (show wpAny _ _ (field (.ref z) 3 >>= _) _ _ _ from wpAny_bind (wpAny_field hz rfl (x := .ref TI) rfl ?_))
  refine wpAny_bind (wpAny_seqItems hI rfl ?_)
  dsimp only
  rw [if_neg (by simp [refsOf]; omega)]
  refine wpAny_bind ?_
  unfold Builtin.SmallTypes.ownedTupleIsFree
  refine wpAny_bind (wpAny_field hz rfl (x := .none) rfl (wpAny_pure ?_))
  rw [if_pos rfl]
  have clen : (colOf n row c).length = n := by simp [colOf]
  refine wpAny_bind (wpAny_rule ?_)
  refine wpAny_bind (wpAny_field hz rfl (x := .ref TO) rfl ?_)
  refine wpAny_bind (wpAny_setField_rec hz (by simp) fun h1 hz1 sb1 => ?_)
  replace hz1 : ZRec h1 z TI TO .ellipsis f1 := hz1
  have loop : ∀ f : Value × Nat → Option PySem.Fin × Unit → Sem (ForInStep (Option PySem.Fin × Unit)), (∀ v k r (G : ForInStep (Option PySem.Fin × Unit) → Shared → Prop) s', (∀ Z' : Value → Shared → Prop, wpAny (model prog w) A (Builtin.SmallTypes.nextOf v) (fun x s'' => ∃ xs : List Value, TupAt s''.heap TO xs ∧ xs.length ≤ 24 ∧ G (.yield (none, ())) { s'' with heap := s''.heap.update TO (Obj.mapSeq fun ys => ys.setIfInBounds k x) }) Z' s') → wpAny (model prog w) A (f (v, k) r) G Z s') →
      wpAny (model prog w) A (forIn (refsOf n it).zipIdx (none, ()) f) (fun r s2 => r = (none, ()) ∧ ItsSt s2.heap n it l row c n ∧ ZRec s2.heap z TI TO .ellipsis f1 ∧ TupAt s2.heap TO (colOf n row c) ∧ s2.heap.objs.size = s.heap.objs.size ∧
        (∀ b o, b ≠ z → b ≠ TO → (∀ j, j < n → b ≠ it j) → s.heap.get? b = some o → s2.heap.get? b = some o) ∧ s2 = { s with heap := s2.heap }) Z { s with heap := h1 } := by
    intro f hf
    refine forIn_idx (fun k b s' => b = (none, ()) ∧ k ≤ n ∧ ItsSt s'.heap n it l row c k ∧ ZRec s'.heap z TI TO .ellipsis f1 ∧ TupAt s'.heap TO ((colOf n row c).take k ++ ns.drop k) ∧ s'.heap.objs.size = s.heap.objs.size ∧
      (∀ b o, b ≠ z → b ≠ TO → (∀ j, j < n → b ≠ it j) → s.heap.get? b = some o → s'.heap.get? b = some o) ∧ s' = { s with heap := s'.heap })
      ⟨rfl, Nat.zero_le _, S.over sb1.extBut (fun j hj => D.iz j hj) (fun j hj => D.lz j hj), hz1, (sb1.2 _ D.Oz).trans (by simpa using hO), sb1.1, fun b o h1 _ _ e => (sb1.2 b h1).trans e, rfl⟩ ?_ ?_
    · rintro k ⟨v, k'⟩ b s2 hv ⟨rfl, hk, S2, hz2, hO2, hsz2, kept2, hs2⟩
      have hlen : (refsOf n it).zipIdx.length = n := by simp [refsOf]
      have hkn : k < n := by
        have := (List.getElem?_eq_some_iff.mp hv).1
        omega
      have hvk : v = .ref (it k) ∧ k' = k := by
        have : (refsOf n it).zipIdx[k]? = some (.ref (it k), k) := by simp [refsOf, List.getElem?_map, List.getElem?_range hkn]
        rw [this] at hv
        cases hv
        exact ⟨rfl, rfl⟩
      obtain ⟨rfl, rfl⟩ := hvk
      have hx : (row k')[c]? = some ((row k')[c]'(hc k' hkn)) := Array.getElem?_eq_getElem (hc k' hkn)
      have ik := S2.it k' hkn
      rw [if_neg (Nat.lt_irrefl k')] at ik
      have hck : (colOf n row c)[k']? = some ((row k')[c]'(hc k' hkn)) := by simp [colOf, List.getElem?_map, List.getElem?_range hkn, hx]
      refine hf _ _ _ _ _ fun Z' => wpAny_nextOf_list_item ik (S2.row k' hkn) hx fun h' hi' sb => ?_
      have hO3 : TupAt h' TO _ := (sb.2 TO (D.iO k' hkn).symm).trans hO2
      refine ⟨_, hO3, by simp [clen]; omega, (none, ()), rfl, rfl, hkn, ?_⟩
      have sbu : Heap.SameBut TO h' (h'.update TO (Obj.mapSeq fun ys => ys.setIfInBounds k' ((row k')[c]'(hc k' hkn)))) := Heap.SameBut.update ..
      refine ⟨(S2.step D hkn hi' sb).over sbu.extBut (fun j hj => D.iO j hj) (fun j hj => D.lO j hj), (sbu.2 z D.Oz.symm).trans ((sb.2 z (D.iz k' hkn).symm).trans hz2), ?_, sbu.1.trans (sb.1.trans hsz2), fun b o h1 h2 h3 e => (sbu.2 b h2).trans ((sb.2 b (h3 k' hkn)).trans (kept2 b o h1 h2 h3 e)), by rw [hs2]⟩
      have := tupAt_set (k := k') (x := (row k')[c]'(hc k' hkn)) hO3
      rw [set_next hck (by omega)] at this
      exact this
    · rintro b s2 ⟨rfl, hk, S2, hz2, hO2, hsz2, kept2, hs2⟩
      have hlen : (refsOf n it).zipIdx.length = n := by simp [refsOf]
      rw [hlen] at S2 hO2
      rw [List.take_of_length_le (by omega), List.drop_of_length_le (by omega), List.append_nil] at hO2
      exact ⟨rfl, S2, hz2, hO2, hsz2, kept2, hs2⟩
  refine wpAny_bind (wpAny_mono (loop _ ?_) (fun r s2 h => ?_) fun _ _ y => y)
  case refine_1 =>
    intro v k r G s' h
    refine wpAny_bind (wpAny_onRaise ?_)
    refine (show wpAny _ _ (Builtin.SmallTypes.nextOf v >>= _) _ _ _ from wpAny_bind (wpAny_mono (h _) (fun x s'' hx => wpAny_pure ?_) fun _ _ y => y))
    obtain ⟨xs, hO2, hl2, g⟩ := hx
    refine wpAny_bind (wpAny_seqItems hO2 rfl ?_)
    dsimp only
    exact wpAny_bind (wpAny_updateSeq hO2 rfl (wpAny_bind (wpAny_letGo (wpAny_pure g))) (by rw [List.size_toArray, sizeLine_eq]; omega) (by rw [Array.size_setIfInBounds, List.size_toArray, sizeLine_eq]; omega))
  case refine_2 =>
    obtain ⟨rfl, S2, hz2, hO2, hsz2, kept2, hs2⟩ := h
    dsimp only
    refine wpAny_bind (wpAny_seqItems hO2 rfl ?_)
    dsimp only
    refine wpAny_bind (wpAny_newTuple ?_ (by rw [sizeLine_eq]; simp [clen]; omega))
    refine wpAny_bind ?_
    unfold Builtin.SmallTypes.ownedTupleHandOut
    have zlt : z < s2.heap.objs.size := Heap.lt_size hz2
    have hz3 : ZRec (s2.heap.push { cls := .type "tuple", data := .seq (colOf n row c).toArray.toList.toArray }) z TI TO .ellipsis f1 := Heap.get?_push_of_some _ hz2
    refine wpAny_bind (wpAny_setField_rec hz3 (by simp) fun h4 hz4 sb4 => ?_)
    refine wpAny_setField_rec hz4 (by simp) fun h5 hz5 sb5 => ?_
    refine wpAny_pure ⟨_, rfl, ?_⟩
    have tupT : (s2.heap.push { cls := .type "tuple", data := .seq (colOf n row c).toArray.toList.toArray }).get? s2.heap.objs.size = some { cls := .type "tuple", data := .seq (colOf n row c).toArray } := Heap.get?_push_size _ rfl
    have up : ∀ b o, b ≠ z → s2.heap.get? b = some o → h5.get? b = some o := fun b o h1 e => (sb5.2 b h1).trans ((sb4.2 b h1).trans (Heap.get?_push_of_some _ e))
    rw [hs2]
    refine (show Q (.ref s2.heap.objs.size) { s with heap := h5 } from ?_)
    have hz6 : ZRec h5 z TI TO (rawInt s2.heap.objs.size) (.bool false) := hz5
    have tupH : h5.get? s2.heap.objs.size = some { cls := .type "tuple", data := .seq (colOf n row c).toArray } := (sb5.2 _ (Nat.ne_of_gt zlt)).trans ((sb4.2 _ (Nat.ne_of_gt zlt)).trans tupT)
    rw [hsz2] at hz6 tupH ⊢
    refine hQ h5 hz6 ⟨fun j hj => ?_, fun j hj => (S2.row j hj).at fun o e => up _ o (D.lz j hj) e⟩ tupH (by rw [sb5.1, sb4.1, Heap.size_push, hsz2]) (fun b o h1 h2 h3 e => up b o h1 (kept2 b o h1 h2 h3 e))
    have := S2.it j hj
    rw [if_pos hj] at this
    exact this.at fun o e => up _ o (D.iz j hj) e
end
section
variable {prog : Program} {w : World} {A : Around} {Z : Value → Shared → Prop} {s : Shared} {n c : Nat} {it l : Nat → Addr} {row : Nat → Array Value} {z TI TO : Addr} {f0 f1 : Value}
theorem refsOf_cons (hn : 0 < n) : ∃ r, refsOf n it = .ref (it 0) :: r := by
  obtain ⟨m, rfl⟩ : ∃ m, n = m + 1 := ⟨n - 1, by omega⟩
  unfold refsOf
  rw [List.range_succ_eq_map]
  exact ⟨_, rfl⟩
def EndAt (s : Shared) (n : Nat) (it : Nat → Addr) (z : Addr) (Z : Value → Shared → Prop) : Prop := ∀ h' e, (∀ b o, b ≠ z → (∀ j, j < n → b ≠ it j) → s.heap.get? b = some o → h'.get? b = some o) → (∃ o, h'.get? e = some o ∧ o.cls = .type "StopIteration") → Z (.ref e) { s with heap := h' }
theorem zipN_end_later {f0a : Addr} {o0 : Obj} {Q : PySem.Fin → Shared → Prop} (hh : A.handled = none) (D : Apart n it l z TI TO) (hn : 0 < n) (hz : ZRec s.heap z TI TO (rawInt f0a) f1) (hf1 : f1 = .bool true ∨ f1 = .bool false) (ha : s.heap.get? f0a = some o0) (hI : s.heap.get? TI = some { cls := .type "tuple", data := .seq (refsOf n it).toArray })
    (S : ItsSt s.heap n it l row c 0) (hc : (row 0)[c]? = none) (hE : EndAt s n it z Z) :
    wpAny (model prog w) A (Builtin.«zip.__next__» ⟨[.ref z], []⟩) Q Z s := by
  refine (show wpAny _ _ (field (.ref z) 2 >>= _) _ _ _ from wpAny_bind (wpAny_field hz rfl (x := .bool false) rfl ?_))
  refine (show wpAny _ _ (field (.ref z) 3 >>= _) _ _ _ from wpAny_bind (wpAny_field hz rfl (x := .ref TI) rfl ?_))
  refine wpAny_bind (wpAny_seqItems hI rfl ?_)
  dsimp only
  obtain ⟨r, hr⟩ := refsOf_cons (it := it) hn
  rw [hr, if_neg (by simp)]
  refine wpAny_bind ?_
  unfold Builtin.SmallTypes.ownedTupleIsFree
  refine wpAny_bind (wpAny_field hz rfl (x := rawInt f0a) rfl ?_)
  refine (show wpAny _ _ (loadIfAlive f0a >>= _) _ _ _ from wpAny_bind (wp_alive ?_))
  rw [ha, if_neg (by simp)]
  refine wpAny_bind (wpAny_field hz rfl (x := f1) rfl ?_)
  have i0 := S.it 0 hn
  rw [if_neg (Nat.lt_irrefl 0)] at i0
  rcases hf1 with rfl | rfl
  · rw [if_neg (by decide)]
    refine wpAny_pure ?_
    rw [if_neg Bool.false_ne_true, List.forIn_toArray, List.forIn_cons]
    refine wpAny_bind (wpAny_bind (wpAny_bind (wpAny_holding ?_)))
    refine (show wpAny _ _ (Builtin.SmallTypes.nextOf (.ref (it 0)) >>= _) _ _ _ from wpAny_bind (wpAny_nextOf_list_end hh i0 (S.row 0 hn) hc fun h' e ex he => ?_))
    exact hE h' e (fun b o _ h2 q => ex b o (h2 0 hn) q) he
  · rw [if_pos (by decide)]
    refine wpAny_bind (wpAny_setField_rec hz (by simp) fun h1 hz1 sb => wpAny_pure ?_)
    rw [if_neg Bool.false_ne_true, List.forIn_toArray, List.forIn_cons]
    have S1 := S.over sb.extBut (fun j hj => D.iz j hj) (fun j hj => D.lz j hj)
    have i1 := S1.it 0 hn
    rw [if_neg (Nat.lt_irrefl 0)] at i1
    refine wpAny_bind (wpAny_bind (wpAny_bind (wpAny_holding ?_)))
    refine (show wpAny _ _ (Builtin.SmallTypes.nextOf (.ref (it 0)) >>= _) _ _ _ from wpAny_bind (wpAny_nextOf_list_end (s := { s with heap := h1 }) hh i1 (S1.row 0 hn) hc fun h' e ex he => ?_))
    exact hE h' e (fun b o h1 h2 q => ex b o (h2 0 hn) ((sb.2 b h1).trans q)) he
theorem zipN_end_first {Q : PySem.Fin → Shared → Prop} (hh : A.handled = none) (D : Apart n it l z TI TO) (hn : 0 < n) (hz : ZRec s.heap z TI TO .none f1) (hI : s.heap.get? TI = some { cls := .type "tuple", data := .seq (refsOf n it).toArray })
    (S : ItsSt s.heap n it l row c 0) (hc : (row 0)[c]? = none) (hE : EndAt s n it z Z) :
    wpAny (model prog w) A (Builtin.«zip.__next__» ⟨[.ref z], []⟩) Q Z s := by
  refine (show wpAny _ _ (field (.ref z) 2 >>= _) _ _ _ from wpAny_bind (wpAny_field hz rfl (x := .bool false) rfl ?_))
  refine (show wpAny _ _ (field (.ref z) 3 >>= _) _ _ _ from wpAny_bind (wpAny_field hz rfl (x := .ref TI) rfl ?_))
  refine wpAny_bind (wpAny_seqItems hI rfl ?_)
  dsimp only
  obtain ⟨r, hr⟩ := refsOf_cons (it := it) hn
  rw [hr, if_neg (by simp)]
  refine wpAny_bind ?_
  unfold Builtin.SmallTypes.ownedTupleIsFree
  refine wpAny_bind (wpAny_field hz rfl (x := .none) rfl (wpAny_pure ?_))
  rw [if_pos rfl]
  refine wpAny_bind (wpAny_rule ?_)
  refine wpAny_bind (wpAny_field hz rfl (x := .ref TO) rfl ?_)
  refine wpAny_bind (wpAny_setField_rec hz (by simp) fun h1 hz1 sb => ?_)
  have S1 := S.over sb.extBut (fun j hj => D.iz j hj) (fun j hj => D.lz j hj)
  have i1 := S1.it 0 hn
  rw [if_neg (Nat.lt_irrefl 0)] at i1
  rw [List.zipIdx_cons, List.forIn_cons]
  refine wpAny_bind (wpAny_bind (wpAny_bind (wpAny_onRaise ?_)))
  refine (show wpAny _ _ (Builtin.SmallTypes.nextOf (.ref (it 0)) >>= _) _ _ _ from wpAny_bind (wpAny_nextOf_list_end (s := { s with heap := h1 }) hh i1 (S1.row 0 hn) hc fun h2 e ex he => ?_))
  obtain ⟨oe, hoe, hce⟩ := he
  have hz2 : h2.get? z = some _ := ex z _ (D.iz 0 hn).symm hz1
  have hez : e ≠ z := fun q => by subst q; rw [hz2] at hoe; cases hoe; simp at hce
  refine wpAny_setField_rec hz2 (by simp) fun h3 _ sb3 => ?_
  exact hE h3 e (fun b o h1 h2 q => (sb3.2 b h1).trans (ex b o (h2 0 hn) ((sb.2 b h1).trans q))) ⟨oe, (sb3.2 e hez).trans hoe, hce⟩
theorem zipN_empty {Q : PySem.Fin → Shared → Prop} (hh : A.handled = none) (hz : ZRec s.heap z TI TO f0 f1) (hI : s.heap.get? TI = some { cls := .type "tuple", data := .seq #[] })
    (hE : EndAt s 0 it z Z) : wpAny (model prog w) A (Builtin.«zip.__next__» ⟨[.ref z], []⟩) Q Z s := by
  refine (show wpAny _ _ (field (.ref z) 2 >>= _) _ _ _ from wpAny_bind (wpAny_field hz rfl (x := .bool false) rfl ?_))
  refine (show wpAny _ _ (field (.ref z) 3 >>= _) _ _ _ from wpAny_bind (wpAny_field hz rfl (x := .ref TI) rfl ?_))
  refine wpAny_bind (wpAny_seqItems hI rfl ?_)
  dsimp only
  rw [if_pos (by simp)]
  refine wpAny_bind (wpAny_rule ?_)
  unfold Builtin.SmallTypes.stopIteration
  refine wpAny_bind (wpAny_bind ?_)
  simp only [newExc, newTuple]
  refine wpAny_bind (wpAny_newObj_type (wpAny_bind (m := firstArgMember _ _) (wpAny_of_eq (a := Value.none) ?_ (wpAny_newObj_type ?_ (by size_fits)))) (by size_fits))
  · first
      | rfl
      | (simp only [firstArgMember]
         rfl)
  · simp only [raiseNew]
    refine wpAny_bind (wpAny_handled ?_)
    rw [hh]
    refine wpAny_bind (wpAny_pure (wpAny_throw ?_))
    exact hE _ _ (fun b o _ _ q => Heap.get?_push_of_some _ (Heap.get?_push_of_some _ q)) ⟨_, Heap.get?_push_size _ rfl, rfl⟩
/-! ### pyNext -/
theorem next_of {Q : Option Value → Shared → Prop} {f0 f1 : Value} (hz : ZRec s.heap z TI TO f0 f1) (h : wpAny (model prog w) A.in1 (Builtin.«zip.__next__» ⟨[.ref z], []⟩) (fun fin s' => ∃ v, fin = .done (.ret v) ∧ Q (some v) s') (fun _ _ => False) s) :
    wpAny (model prog w) A (pyNext (.ref z)) Q Z s := by
  have hT : s.TypeIs (.ref z) "zip" := ⟨_, hz, rfl⟩
  unfold pyNext
  refine wpAny_bind (wpAny_attempt (wpAny_callSpecial?_slot (name := Str.ofString "__next__") hT F.slot_zip_next (wpAny_call_entry F.slot_zip_next hT F.entry_zip_next (wpAny_mono h (fun fin s' g => ?_) fun _ _ y => y.elim) (F.args_zip_next_1 _))))
  obtain ⟨v, rfl, g⟩ := g
  exact ⟨v, rfl, wpAny_pure g⟩
theorem next_end {Q : Option Value → Shared → Prop} {f0 f1 : Value} (hz : ZRec s.heap z TI TO f0 f1) (h : wpAny (model prog w) A.in1 (Builtin.«zip.__next__» ⟨[.ref z], []⟩) (fun _ _ => False) (fun e s' => (∃ a o, e = .ref a ∧ s'.heap.get? a = some o ∧ o.cls = .type "StopIteration") ∧ Q none s') s) :
    wpAny (model prog w) A (pyNext (.ref z)) Q Z s := by
  have hT : s.TypeIs (.ref z) "zip" := ⟨_, hz, rfl⟩
  unfold pyNext
  refine wpAny_bind (wpAny_attempt (wpAny_callSpecial?_slot (name := Str.ofString "__next__") hT F.slot_zip_next (wpAny_call_entry F.slot_zip_next hT F.entry_zip_next (wpAny_mono h (fun fin s' g => g.elim) fun e s' g => ?_) (F.args_zip_next_1 _))))
  obtain ⟨⟨a, o, rfl, ho, hc⟩, g⟩ := g
  exact wpAny_bind (wpAny_isInstance (T := "StopIteration") (b := true) ⟨o, ho, hc⟩ isSubtype_stop (wpAny_pure g))
end
theorem zip_no_len : typeLookup (.type "zip") "__len__" = pure none := by rw [typeLookup_type, builtinLookup_eq_fast]; kernel_rfl
theorem zip_no_hint : typeLookup (.type "zip") "__length_hint__" = pure none := by rw [typeLookup_type, builtinLookup_eq_fast]; kernel_rfl
theorem far_ne {a T : Addr} {N : Nat} (h1 : a < N) (h2 : N ≤ T) : T ≠ a := fun q => by subst q; exact Nat.lt_irrefl _ (Nat.lt_of_lt_of_le h1 h2)
section
variable {prog : Program} {w : World} {A : Around} {n m : Nat} {it l : Nat → Addr} {row : Nat → Array Value} {z TI TO S : Addr}
abbrev LisAt (h : Heap) (a : Addr) (vs : List Value) (cc : Nat) : Prop := h.get? a = some { cls := .type "list", dict := none, data := .seq vs.toArray cc, slots := #[] }
/-- what has been listed: the columns before c are, in the tuples Ts -/
structure ColsB (h0 : Heap) (n : Nat) (it : Nat → Addr) (row : Nat → Array Value) (z TO S : Addr) (h : Heap) (c : Nat) (Ts : List Addr) (cc : Nat) : Prop where
  lis : LisAt h S (Ts.map Value.ref) cc
  len : Ts.length = c
  tup : ∀ (j : Nat) (T : Addr), Ts[j]? = some T → TupAt h T (colOf n row j)
  new : ∀ T ∈ Ts, h0.objs.size ≤ T ∧ T < h.objs.size
  nd : Ts.Nodup
  kept : ∀ b o, b ≠ S → b ≠ z → b ≠ TO → (∀ j, j < n → b ≠ it j) → h0.get? b = some o → h.get? b = some o
/-- and what stands for the next turn -/
structure ColsZ (n : Nat) (it l : Nat → Addr) (row : Nat → Array Value) (z TI TO : Addr) (h : Heap) (c : Nat) (Ts : List Addr) : Prop where
  zr : (c = 0 ∧ ZRec h z TI TO .none (.bool false) ∧ ∃ ns, TupAt h TO ns ∧ ns.length = n) ∨ ∃ (T : Addr) (f1 : Value), Ts[0]? = some T ∧ ZRec h z TI TO (rawInt T) f1 ∧ (f1 = .bool true ∨ f1 = .bool false)
  ti : h.get? TI = some { cls := .type "tuple", data := .seq (refsOf n it).toArray }
  st : ItsSt h n it l row c 0
/-- S stands apart, and all of it is old -/
structure ApartS (h0 : Heap) (n : Nat) (it l : Nat → Addr) (z TI TO S : Addr) : Prop where
  D : Apart n it l z TI TO
  Sz : S ≠ z
  SI : S ≠ TI
  SO : S ≠ TO
  Si : ∀ j, j < n → S ≠ it j
  Sl : ∀ j, j < n → S ≠ l j
  oz : z < h0.objs.size
  oO : TO < h0.objs.size
  oS : S < h0.objs.size
  oi : ∀ j, j < n → it j < h0.objs.size
variable {h0 : Heap}
theorem cols_loop (hh : A.handled = none) (D : ApartS h0 n it l z TI TO S) (hn : 0 < n) (h24 : n ≤ 24) (hm : ∀ j, j < n → (row j).size = m) (hm2 : m ≤ 1000) (res : Value) {R : Result → Shared → Prop} :
    ∀ (k c : Nat) (s : Shared) (Ts : List Addr) (cc : Nat), m - c = k → c ≤ m → ColsB h0 n it row z TO S s.heap c Ts cc → ColsZ n it l row z TI TO s.heap c Ts → h0.objs.size ≤ s.heap.objs.size →
      (∀ h' Ts' cc', ColsB h0 n it row z TO S h' m Ts' cc' → R (.ok (.ret res)) { s with heap := h' }) → codeAny (model prog w) A (.builtin "list.extend.loop" ⟨[.ref S, .ref z, res], []⟩) R s := by
  intro k
  induction k with
  | zero =>
    intro c s Ts cc hk hc C V big hR
    have e : c = m := by omega
    subst e
    refine codeAny_builtin F.entry_extend_loop ?_
    rw [Around.under_plainId F.plain_extend_loop _]
    refine (show wpAny _ A.in1 (pyNext (.ref z) >>= _) _ _ s from wpAny_bind ?_)
    have none0 : (row 0)[c]? = none := Array.getElem?_eq_none (by rw [hm 0 hn]; exact Nat.le_refl _)
    have done : ∀ h', (∀ b o, b ≠ z → (∀ j, j < n → b ≠ it j) → s.heap.get? b = some o → h'.get? b = some o) → ColsB h0 n it row z TO S h' c Ts cc := fun h' kept => {
      lis := kept S _ D.Sz (fun j hj => D.Si j hj) C.lis
      len := C.len
      tup := fun j T hT => kept T _ (far_ne D.oz (C.new T (List.mem_of_getElem? hT)).1) (fun i hi => far_ne (D.oi i hi) (C.new T (List.mem_of_getElem? hT)).1) (C.tup j T hT)
      new := fun T hT => ⟨(C.new T hT).1, by
        obtain ⟨j, hj⟩ := List.getElem?_of_mem hT
        exact Heap.lt_size (kept T _ (far_ne D.oz (C.new T hT).1) (fun i hi => far_ne (D.oi i hi) (C.new T hT).1) (C.tup j T hj))⟩
      nd := C.nd
      kept := fun b o h1 h2 h3 h4 e => kept b o h2 h4 (C.kept b o h1 h2 h3 h4 e) }
    rcases V.zr with ⟨_, hz, _⟩ | ⟨T, f1, hT, hz, hf⟩
    · refine next_end hz (zipN_end_first (A := A.in1.in1) hh D.D hn hz V.ti V.st none0 fun h' e kept he => ?_)
      obtain ⟨o, ho, hcl⟩ := he
      exact ⟨⟨e, o, rfl, ho, hcl⟩, wpAny_pure (hR h' Ts cc (done h' kept))⟩
    · refine next_end hz (zipN_end_later (A := A.in1.in1) hh D.D hn hz hf (C.tup 0 T hT) V.ti V.st none0 fun h' e kept he => ?_)
      obtain ⟨o, ho, hcl⟩ := he
      exact ⟨⟨e, o, rfl, ho, hcl⟩, wpAny_pure (hR h' Ts cc (done h' kept))⟩
  | succ k ih =>
    intro c s Ts cc hk hc C V big hR
    have hlt : c < m := by omega
    refine codeAny_builtin F.entry_extend_loop ?_
    rw [Around.under_plainId F.plain_extend_loop _]
    refine (show wpAny _ A.in1 (pyNext (.ref z) >>= _) _ _ s from wpAny_bind ?_)
    have hcs : ∀ j, j < n → c < (row j).size := fun j hj => by rw [hm j hj]; exact hlt
    -- what is so behind the turn
    have behind : ∀ (h' : Heap) (f0 f1 : Value) (T0 : Addr), (Ts ++ [s.heap.objs.size])[0]? = some T0 → ZRec h' z TI TO (rawInt T0) f1 → (f1 = .bool true ∨ f1 = .bool false) → ItsSt h' n it l row (c + 1) 0 → TupAt h' s.heap.objs.size (colOf n row c) → h'.objs.size = s.heap.objs.size + 1 →
        (∀ b o, b ≠ z → b ≠ TO → (∀ j, j < n → b ≠ it j) → s.heap.get? b = some o → h'.get? b = some o) → wpAny (model prog w) A.in1 (do
          updateSeq S (·.push (.ref s.heap.objs.size))
          again (.builtin "list.extend.loop" ⟨[.ref S, .ref z, res], []⟩)) (fun fin s' => match fin with
            | .done f => R (.ok f) s'
            | .again c' => c'.quiet = true ∧ codeAny (model prog w) A c' R s') (fun e s' => R (.error e) s') { s with heap := h' } := by
      intro h' f0 f1 T0 hT0 hz' hf1 S' tupT hsz kept
      have hS' : LisAt h' S (Ts.map Value.ref) cc := kept S _ D.Sz D.SO (fun j hj => D.Si j hj) C.lis
      have hTs : (Ts.map Value.ref).length ≤ 1000 := by rw [List.length_map, C.len]; omega
      refine wpAny_bind (wpAny_updateSeq hS' rfl (wpAny_pure ⟨plainId_quiet F.plain_extend_loop _, ?_⟩) (by rw [List.size_toArray, sizeLine_eq]; omega) (by rw [Array.size_push, List.size_toArray, sizeLine_eq]; omega))
      have sb : Heap.SameBut S h' (h'.update S (Obj.mapSeq fun a => a.push (.ref s.heap.objs.size))) := Heap.SameBut.update ..
      have Sne : S ≠ s.heap.objs.size := Nat.ne_of_lt (Nat.lt_of_lt_of_le D.oS big)
      have far : ∀ T ∈ Ts, T ≠ z ∧ T ≠ TO ∧ (∀ j, j < n → T ≠ it j) ∧ T ≠ S := fun T hT => by
        have h1 := (C.new T hT).1
        exact ⟨far_ne D.oz h1, far_ne D.oO h1, fun j hj => far_ne (D.oi j hj) h1, far_ne D.oS h1⟩
      obtain ⟨cc', hL⟩ : ∃ cc', LisAt (h'.update S (Obj.mapSeq fun a => a.push (.ref s.heap.objs.size))) S ((Ts ++ [s.heap.objs.size]).map Value.ref) cc' := by
        have up := Heap.get?_update_self (Obj.mapSeq fun a => a.push (.ref s.heap.objs.size)) hS' rfl
        obtain ⟨c2, e⟩ : ∃ c2, Obj.mapSeq (fun a => a.push (Value.ref s.heap.objs.size)) { cls := .type "list", dict := none, data := .seq (Ts.map Value.ref).toArray cc, slots := #[] } = { cls := .type "list", dict := none, data := .seq ((Ts.map Value.ref).toArray.push (.ref s.heap.objs.size)) c2, slots := #[] } := ⟨_, rfl⟩
        rw [e] at up
        refine ⟨c2, up.trans ?_⟩
        rw [List.map_append]
        simp
      refine ih (c + 1) _ (Ts ++ [s.heap.objs.size]) cc' (by omega) hlt ⟨hL, by rw [List.length_append, C.len]; rfl, fun j T hT => ?_, fun T hT => ?_, ?_, fun b o h1 h2 h3 h4 e => (sb.2 b h1).trans (kept b o h2 h3 h4 (C.kept b o h1 h2 h3 h4 e))⟩
        ⟨.inr ⟨T0, f1, hT0, (sb.2 z D.Sz.symm).trans hz', hf1⟩, (sb.2 TI D.SI.symm).trans (kept TI _ D.D.Tz D.D.TO_ (fun j hj => (D.D.iT j hj).symm) V.ti), S'.over sb.extBut (fun j hj => (D.Si j hj).symm) (fun j hj => (D.Sl j hj).symm)⟩ (by rw [sb.1, hsz]; omega) (fun h'' Ts' cc' B => hR h'' Ts' cc' B)
      · rw [List.getElem?_append] at hT
        split at hT
        · have hm := List.mem_of_getElem? hT
          obtain ⟨g1, g2, g3, g4⟩ := far T hm
          exact (sb.2 T g4).trans (kept T _ g1 g2 g3 (C.tup j T hT))
        · rename_i hj
          have hj2 : j - Ts.length = 0 := by
            cases e : j - Ts.length with
            | zero => rfl
            | succ q => rw [e] at hT; cases hT
          rw [hj2] at hT
          cases hT
          have e : j = c := by have := C.len; omega
          subst e
          exact (sb.2 _ Sne.symm).trans tupT
      · rcases List.mem_append.mp hT with q | q
        · exact ⟨(C.new T q).1, by rw [sb.1, hsz]; exact Nat.lt_succ_of_lt (C.new T q).2⟩
        · rw [List.mem_singleton.mp q]
          exact ⟨big, by rw [sb.1, hsz]; exact Nat.lt_succ_self _⟩
      · refine List.nodup_append.mpr ⟨C.nd, by simp, fun a ha b hb => ?_⟩
        rw [List.mem_singleton.mp hb]
        exact Nat.ne_of_lt (C.new a ha).2
    rcases V.zr with ⟨hc0, hz, ns, hO, hns⟩ | ⟨T, f1, hT, hz, hf⟩
    · have hnil : Ts = [] := List.length_eq_zero_iff.mp (C.len.trans hc0)
      refine next_of hz (wpAny_mono (zipN_first (A := A.in1.in1) (Z := fun _ _ => False) D.D hn h24 hz V.ti hO hns V.st hcs fun h' a1 a2 a3 a4 a5 => ?_) (fun _ _ q => q) fun _ _ q => q)
      exact behind h' .none (.bool false) s.heap.objs.size (by rw [hnil]; rfl) a1 (.inr rfl) a2 a3 a4 a5
    · refine next_of hz (wpAny_mono (zipN_later (A := A.in1.in1) (Z := fun _ _ => False) D.D hn h24 hz hf (C.tup 0 T hT) V.ti V.st hcs fun h' a1 a2 a3 a4 a5 => ?_) (fun _ _ q => q) fun _ _ q => q)
      exact behind h' .none (.bool true) T (by rw [List.getElem?_append_left (List.getElem?_eq_some_iff.mp hT).1]; exact hT) a1 (.inl rfl) a2 a3 a4 (fun b o h1 _ h3 e => a5 b o h1 h3 e)
end
section
variable {prog : Program} {w : World} {A : Around} {z TI TO S : Addr} {s : Shared} {R : Result → Shared → Prop}
theorem SameBut.then {a : Addr} {h h1 h2 : Heap} (x : Heap.SameBut a h h1) (y : Heap.SameBut a h1 h2) : Heap.SameBut a h h2 := ⟨y.1.trans x.1, fun b hb => (y.2 b hb).trans (x.2 b hb)⟩
/-- the list is emptied, given room, and filled by the loop -/
theorem list_init_zip (hz : ZRec s.heap z TI TO .none (.bool false)) (ne : S ≠ z) (hS : s.heap.get? S = some { cls := .type "list", data := .seq #[] })
    (go : ∀ h1 cc, Heap.SameBut S s.heap h1 → LisAt h1 S [] cc → codeAny (model prog w) A (.builtin "list.extend.loop" ⟨[.ref S, .ref z, .none], []⟩) R { s with heap := h1 }) :
    wpAny (model prog w) A.in1 (Builtin.«list.__init__» ⟨[.ref S, .ref z], []⟩) (fun fin s' => match fin with
      | .done f => R (.ok f) s'
      | .again c' => c'.quiet = true ∧ codeAny (model prog w) A c' R s') (fun e s' => R (.error e) s') s := by
  refine (show wpAny _ A.in1 (Builtin.List.listItems (.ref S) >>= fun old => Builtin.List.listUpdate (.ref S) (fun _ => #[]) >>= fun _ => letGo old.toList.reverse >>= fun _ => Builtin.List.listExtendWith (.ref S) (.ref z) .none) _ _ s from ?_)
  refine wpAny_bind ?_
  unfold Builtin.List.listItems
  refine wpAny_bind (wpAny_seqItems hS rfl (wpAny_pure ?_))
  refine (show wpAny _ A.in1 (updateSeq S (fun _ => #[]) >>= _) _ _ s from wpAny_bind (wpAny_updateSeq hS rfl (wpAny_bind (wpAny_letGo ?_))))
  have sb1 : Heap.SameBut S s.heap (s.heap.update S (Obj.mapSeq fun _ => #[])) := Heap.SameBut.update ..
  have hS1 := Heap.get?_update_self (Obj.mapSeq (fun _ => (#[] : Array Value))) hS rfl
  have hz1 : ZRec (s.heap.update S (Obj.mapSeq fun _ => #[])) z TI TO .none (.bool false) := (sb1.2 z ne.symm).trans hz
  have ty : Shared.TypeIs { s with heap := s.heap.update S (Obj.mapSeq fun _ => #[]) } (.ref z) "zip" := ⟨_, hz1, rfl⟩
  unfold Builtin.List.listExtendWith
  refine wpAny_bind (wpAny_typeOf ty ?_)
  have g1 : Builtin.List.listSameRef (.ref S) (.ref z) = false := by simp [Builtin.List.listSameRef, ne]
  have g2 : (Value.type "zip" == Value.type "list") = false := by decide
  have g3 : (Value.type "zip" == Value.type "tuple") = false := by decide
  simp only [g1, g2, g3, Bool.or_false, Bool.false_eq_true, if_false]
  refine wpAny_bind (wpAny_pyIter_zip hz1 (wpAny_bind (wpAny_holding ?_)))
  unfold Builtin.List.listLengthHint
  refine wpAny_bind (wpAny_specialOf ty zip_no_len ?_)
  refine (show wpAny _ A.in1 (specialOf (Value.ref z) (Str.ofString "__length_hint__") >>= _) _ _ _ from wpAny_bind (wpAny_specialOf ty zip_no_hint (wpAny_pure ?_)))
  refine (show wpAny _ A.in1 (rule "list.extend.makes-room" >>= fun _ => Builtin.List.listTouch (.ref S) >>= fun _ => again (.builtin "list.extend.loop" ⟨[.ref S, .ref z, .none], []⟩)) _ _ _ from wpAny_bind (wpAny_rule (wpAny_bind ?_)))
  refine (show wpAny _ A.in1 (updateSeq S (·.push .none) >>= fun _ => updateSeq S (·.pop)) _ _ _ from wpAny_bind (wpAny_updateSeq hS1 rfl ?_))
  have hS2 := Heap.get?_update_self (Obj.mapSeq (·.push Value.none)) hS1 rfl
  refine wpAny_updateSeq (hz := by seq_fits) hS2 rfl ?_
  have hS3 := Heap.get?_update_self (Obj.mapSeq (·.pop)) hS2 rfl
  obtain ⟨cc, e⟩ : ∃ cc, Obj.mapSeq (·.pop) (Obj.mapSeq (·.push Value.none) (Obj.mapSeq (fun _ => (#[] : Array Value)) { cls := .type "list", data := .seq #[] })) = ({ cls := .type "list", dict := none, data := .seq #[] cc, slots := #[] } : Obj) := ⟨_, rfl⟩
  refine wpAny_pure ⟨plainId_quiet F.plain_extend_loop _, go _ cc (SameBut.then (SameBut.then sb1 (Heap.SameBut.update ..)) (Heap.SameBut.update ..)) ?_⟩
  exact hS3.trans (by rw [e])
theorem call_list_zip {Q : Value → Shared → Prop} {Z : Value → Shared → Prop} (hz : ZRec s.heap z TI TO .none (.bool false))
    (go : ∀ (R : Result → Shared → Prop) h1 cc, Heap.SameBut s.heap.objs.size (s.heap.push { cls := .type "list", data := .seq #[] }) h1 → LisAt h1 s.heap.objs.size [] cc → (∀ h2, Q (.ref s.heap.objs.size) { s with heap := h2 } → R (.ok (.ret .none)) { s with heap := h2 }) →
      codeAny (model prog w) A.in1 (.builtin "list.extend.loop" ⟨[.ref s.heap.objs.size, .ref z, .none], []⟩) R { s with heap := h1 }) :
    wpAny (model prog w) A (call (.type "list") [.ref z]) Q Z s := by
  have zlt : z < s.heap.objs.size := Heap.lt_size hz
  refine callType_codes (Q₁ := fun obj s1 => obj = .ref s.heap.objs.size ∧ s1 = { s with heap := s.heap.push { cls := .type "list", data := .seq #[] } }) F.called_list (F.typeCall_list_1 _) F.entry_list_init (code_list_new _ ⟨rfl, rfl⟩) fun obj s1 h1 => ?_
  obtain ⟨rfl, rfl⟩ := h1
  have hS : (s.heap.push { cls := .type "list", data := .seq #[] }).get? s.heap.objs.size = some { cls := .type "list", data := .seq #[] } := Heap.get?_push_size _ rfl
  refine ⟨⟨_, hS, rfl⟩, F.args_list_init_2 _ _, list_init_zip (s := { s with heap := s.heap.push { cls := .type "list", data := .seq #[] } }) (Heap.get?_push_of_some _ hz) (Nat.ne_of_gt zlt) hS fun h1 cc sb hl => ?_⟩
  exact go _ h1 cc sb hl fun h2 q => ⟨rfl, q⟩
end
section
open L2
open Evl (Ex)
/-- several new objects are tracked at once -/
theorem Inv_many {X : Cx} {pins : List (Addr × Obj)} {σ : L2.St} {H H' : Hp} {s : Shared} {h' : Heap} {t' : Nat} (I : Inv X pins σ H s) (k : ∀ b o, s.heap.get? b = some o → h'.get? b = some o) (old : ∀ a u, H a = some u → H' a = some u)
    (new : ∀ a u, H' a = some u → H a = none → s.heap.objs.size ≤ a ∧ ObjOk X.prog X.w H' h' a u) : Inv X pins σ H' { s with heap := h', toks := t' } := by
  refine I.un (t' := t') { keep := fun b o q _ _ _ => k b o q, slot := fun b o q _ _ _ => ⟨o.slots, k b o q⟩, free := fun b o q n _ => ?_, there := fun b o q _ => ⟨o, k b o q⟩, tups := fun b xs q => old b _ q, frzs := fun b o u q => old b _ q, tbls := fun b ps q => ⟨#[], by rw [old b _ q]; simp⟩ } fun b u q => ?_
  · cases e : H' b with
    | none => rfl
    | some u => exact absurd (Heap.lt_size q) (Nat.not_lt.mpr (new b u e n).1)
  · cases e : H b with
    | none => exact (new b u q e).2
    | some u0 =>
      have e2 := old b u0 e
      rw [q] at e2
      cases e2
      exact (I.hok b u e).stay (fun c v _ z => k c v z) (fun c z => old c _ z) fun c xs z => old c _ z
/-- the columns, tracked -/
def trk (cols : Nat → List V) : List Addr → Nat → Hp → Hp
  | [], _, H => H
  | T :: Ts, j, H => trk cols Ts (j + 1) (upd H T (.tup (cols j)))
theorem trk_old {cols : Nat → List V} : ∀ {Ts : List Addr} {j : Nat} {H : Hp} {a : Addr}, a ∉ Ts → trk cols Ts j H a = H a
  | [], _, _, _, _ => rfl
  | T :: Ts, j, H, a, h => by
    rw [trk, trk_old (fun q => h (List.mem_cons_of_mem _ q)), upd_ne (fun q => h (by rw [q]; exact List.mem_cons_self))]
theorem trk_at {cols : Nat → List V} : ∀ {Ts : List Addr} {j k : Nat} {H : Hp} {T : Addr}, Ts.Nodup → Ts[k]? = some T → trk cols Ts j H T = some (.tup (cols (j + k)))
  | [], _, _, _, _, _, h => by simp at h
  | T :: Ts, j, 0, H, _, nd, h => by
    cases h
    rw [trk, trk_old (List.nodup_cons.mp nd).1, upd_same]
    rfl
  | T :: Ts, j, k + 1, H, T', nd, h => by
    rw [trk, trk_at (j := j + 1) (k := k) (List.nodup_cons.mp nd).2 (by simpa using h)]
    congr 3
    omega
def colV (n : Nat) (rowV : Nat → List V) (c : Nat) : List V := (List.range n).map fun j => (rowV j)[c]?.getD .non
theorem col_vals {n m c : Nat} {rowV : Nat → List V} {row : Nat → Array Value} (r : ∀ j, j < n → Vals (rowV j) (row j).toList) (hm : ∀ j, j < n → (rowV j).length = m) (hc : c < m) : Vals (colV n rowV c) (colOf n row c) := by
  unfold colV colOf
  have go : ∀ l : List Nat, (∀ j ∈ l, j < n) → Vals (l.map fun j => (rowV j)[c]?.getD .non) (l.map fun j => (row j)[c]?.getD .none) := by
    intro l
    induction l with
    | nil => intro _; exact .nil
    | cons j l ih =>
      intro h
      have hj := h j List.mem_cons_self
      have hl : c < (rowV j).length := by rw [hm j hj]; exact hc
      obtain ⟨u, h1, h2⟩ := (r j hj).get (List.getElem?_eq_getElem hl)
      rw [List.map_cons, List.map_cons]
      refine .cons ?_ (ih fun k hk => h k (List.mem_cons_of_mem _ hk))
      rw [Array.getElem?_toList] at h1
      rw [List.getElem?_eq_getElem hl, h1]
      exact h2
  exact go _ fun j hj => List.mem_range.mp hj
/-- what list(zip(*e)) asks of e: a list of n lists of m items each -/
def tLz (K : PySem.W.Frag) (te : TE) : TE := fun σ H Q => te σ H fun x H1 => ∃ (a : Addr) (rs : List Addr) (rowV : Nat → List V) (m : Nat), x = .ref a ∧ SqL K H1 a (rs.map V.ref) ∧ rs.length ≤ 24 ∧ m ≤ 1000 ∧ (rs = [] → m = 0) ∧
  (∀ (j : Nat) (r : Addr), rs[j]? = some r → SqL K H1 r (rowV j) ∧ (rowV j).length = m) ∧
  ∀ (Ts : List Addr) (S : Addr), Ts.length = m → Ts.Nodup → (∀ T ∈ Ts, H1 T = none) → H1 S = none → S ∉ Ts → Q (.ref S) (upd (trk (colV rs.length rowV) Ts 0 H1) S (.lst (Ts.map V.ref)))
theorem itsAt_refs : ∀ (ls : List Addr) (N : Nat), itsAt N ls = refsOf ls.length fun j => N + j
  | [], N => rfl
  | l :: ls, N => by
    rw [itsAt, itsAt_refs ls (N + 1)]
    unfold refsOf
    rw [List.length_cons, List.range_succ_eq_map, List.map_cons, List.map_map]
    congr 1
    refine List.map_congr_left fun j _ => ?_
    exact congrArg Value.ref (show (N + 1 + j : Nat) = N + (j + 1) by omega)
theorem pushIts_at : ∀ (ls : List Addr) (h : Heap) (j : Nat) (l : Addr), ls[j]? = some l → (pushIts h ls).get? (h.objs.size + j) = some (LIt l)
  | [], _, _, _, e => by simp at e
  | l :: ls, h, 0, _, e => by
    cases e
    exact pushIts_keep ls (Heap.get?_push_size h rfl)
  | l :: ls, h, j + 1, l', e => by
    have := pushIts_at ls (h.push (LIt l)) j l' (by simpa using e)
    rw [Heap.size_push] at this
    rw [pushIts]
    have e2 : h.objs.size + (j + 1) = h.objs.size + 1 + j := by omega
    rw [e2]
    exact this
section
variable {prog : Program} {w : World} {A : Around} {Z : Value → Shared → Prop} {s : Shared}
theorem zn_type (l : List Value) : checkTypeCall "zip" ⟨l, []⟩ = pure () := by kernel_rfl
theorem call_zipN {ls : List Addr} {Q : Value → Shared → Prop} (hl : ∀ l ∈ ls, ∃ its : Array Value, s.heap.IsList l its) (h24 : ls.length ≤ 24) (h : Q (.ref (zO s.heap ls).objs.size) { s with heap := zZ s.heap ls }) : wpAny (model prog w) A (call (.type "zip") (ls.map Value.ref)) Q Z s := by
  refine callType_new F.called_zip (by decide) (zn_type _) (zn_new _ (by rw [List.length_map]; exact h24)) (fun obj => zn_init obj _ (by rw [List.length_map]; exact h24)) F.entry_zip_new (meets_zipN ls) ⟨hl, h24, ?_⟩
  exact ⟨⟨_, Heap.get?_push_size _ rfl, rfl⟩, h⟩
end
end
end U

set_option maxHeartbeats 2000000
namespace U
open PySem PySem.Spec PyProof.Rows L2
open Evl (Ex)
theorem vals_refs : ∀ {rs : List Addr} {us : List Value}, Vals (rs.map V.ref) us → us = rs.map Value.ref
  | [], _, .nil => rfl
  | r :: rs, _, .cons a b => by
    cases (show _ = Value.ref r from a)
    rw [vals_refs b]
    rfl
theorem loop_empty {prog : Program} {w : World} {A : Around} {s : Shared} {z TI TO S : Addr} {res : Value} {R : Result → Shared → Prop} (hh : A.handled = none) (hz : ZRec s.heap z TI TO .none (.bool false)) (hI : s.heap.get? TI = some { cls := .type "tuple", data := .seq #[] })
    (go : ∀ h', (∀ b o, b ≠ z → s.heap.get? b = some o → h'.get? b = some o) → R (.ok (.ret res)) { s with heap := h' }) : codeAny (model prog w) A (.builtin "list.extend.loop" ⟨[.ref S, .ref z, res], []⟩) R s := by
  refine codeAny_builtin F.entry_extend_loop ?_
  rw [Around.under_plainId F.plain_extend_loop _]
  refine (show wpAny _ A.in1 (pyNext (.ref z) >>= _) _ _ s from wpAny_bind ?_)
  refine next_end hz (zipN_empty (A := A.in1.in1) (it := fun _ => 0) hh hz hI fun h' e kept he => ?_)
  obtain ⟨o, ho, hcl⟩ := he
  exact ⟨⟨e, o, rfl, ho, hcl⟩, wpAny_pure (go h' fun b o h1 q => kept b o h1 (fun j hj => absurd hj (Nat.not_lt_zero _)) q)⟩
theorem pe_listZip {X : Cx} {e : Expr} {te : TE} {p p2 sp pos pos2 : Pos} (hc : X.calm = true) (hgl : Gl X "list") (hml : X.mg "list" = none) (hgz : Gl X "zip") (hmz : X.mg "zip" = none) (he : PE X e te)
    (ns : starEach [.Starred e sp] X.env = [(true, eval e X.env)] := by rfl) (na : starEach [.Call (.Name "zip" p2) [.Starred e sp] [] pos2] X.env = (false, eval (.Call (.Name "zip" p2) [.Starred e sp] [] pos2) X.env) :: starEach [] X.env := by rfl) :
    PE X (.Call (.Name "list" p) [.Call (.Name "zip" p2) [.Starred e sp] [] pos2] [] pos) (tLz X.K te) := by
  constructor
  intro pins s σ H Q I h
  refine Call_ (ld_blt I hgl hml boot_list (PyProof.Rows.callWith_type1 (args_cons ?_ na) na))
  refine Call_ (ld_blt I hgz hmz PyProof.Rows.boot_zip ?_)
  rw [ns]
  refine PySem.W.ks_call (P := fun _ => True) rfl (fun h _ => ⟨.machine, .inr (.inl rfl), .of_pure rfl⟩) (PySem.W.ks_lone ?_)
  refine thn (he.run pins s σ H _ I h) ?_
  rintro u s1 ⟨x, H1, I1, rx, a, rs, rowV, m, rfl, hq, h24, hm, hm0, rows, q⟩
  cases (show u = Value.ref a from rx)
  refine StX.star_lst I1 hq fun us s2 I2 rv => ⟨True.intro, ?_⟩
  rw [vals_refs rv]
  have lists : ∀ l ∈ rs, ∃ its : Array Value, s2.heap.IsList l its := fun l hl => by
    obtain ⟨j, hj⟩ := List.getElem?_of_mem hl
    obtain ⟨its, _, pl, _⟩ := I2.list (rows j l hj).1
    exact ⟨_, pl.isList⟩
  refine (show wpAny _ _ (call (.type "zip") (rs.map Value.ref)) _ _ _ from call_zipN lists h24 ?_)
  refine args_nil ?_
  have N1 : (pushIts s2.heap rs).objs.size = s2.heap.objs.size + rs.length := pushIts_size _ _
  have N2 : (zI s2.heap rs).objs.size = s2.heap.objs.size + rs.length + 1 := by rw [Heap.size_push, N1]
  have N3 : (zO s2.heap rs).objs.size = s2.heap.objs.size + rs.length + 2 := by rw [Heap.size_push, N2]
  have N4 : (zZ s2.heap rs).objs.size = s2.heap.objs.size + rs.length + 3 := by rw [Heap.size_push, N3]
  have older : ∀ b o, s2.heap.get? b = some o → (zZ s2.heap rs).get? b = some o := fun b o y => Heap.get?_push_of_some _ (Heap.get?_push_of_some _ (Heap.get?_push_of_some _ (pushIts_keep rs y)))
  have hz : ZRec (zZ s2.heap rs) (zO s2.heap rs).objs.size (pushIts s2.heap rs).objs.size (zI s2.heap rs).objs.size .none (.bool false) := Heap.get?_push_size _ rfl
  have hTI : (zZ s2.heap rs).get? (pushIts s2.heap rs).objs.size = some { cls := .type "tuple", data := .seq (itsAt s2.heap.objs.size rs).toArray } := Heap.get?_push_of_some _ (Heap.get?_push_of_some _ (Heap.get?_push_size _ rfl))
  have hTO : TupAt (zZ s2.heap rs) (zI s2.heap rs).objs.size ((itsAt s2.heap.objs.size rs).map fun _ => Value.none) := Heap.get?_push_of_some _ (Heap.get?_push_size _ rfl)
  have hit : ∀ (j : Nat) (l : Addr), rs[j]? = some l → (zZ s2.heap rs).get? (s2.heap.objs.size + j) = some (LIt l) := fun j l hj => Heap.get?_push_of_some _ (Heap.get?_push_of_some _ (Heap.get?_push_of_some _ (pushIts_at rs s2.heap j l hj)))
  obtain ⟨row, hrow⟩ : ∃ row : Nat → Array Value, ∀ (j : Nat) (l : Addr), rs[j]? = some l → s2.heap.IsList l (row j) ∧ Vals (rowV j) (row j).toList := by
    have : ∀ j : Nat, ∃ xs : Array Value, ∀ l : Addr, rs[j]? = some l → s2.heap.IsList l xs ∧ Vals (rowV j) xs.toList := fun j => by
      cases hj : rs[j]? with
      | none => exact ⟨#[], fun l hl => nomatch hl⟩
      | some l =>
        obtain ⟨its, r, pl, _⟩ := I2.list (rows j l hj).1
        exact ⟨its.toArray, fun l' hl' => by cases hl'; exact ⟨pl.isList, by simpa using r⟩⟩
    exact Classical.axiomOfChoice this
  -- the end, from what has been listed
  have finish : ∀ (h2 : Heap) (Ts : List Addr) (cc : Nat), Ts.length = m → LisAt h2 (zZ s2.heap rs).objs.size (Ts.map Value.ref) cc → (∀ (j : Nat) (T : Addr), Ts[j]? = some T → TupAt h2 T (colOf rs.length row j)) → (∀ T ∈ Ts, s2.heap.objs.size ≤ T ∧ T ≠ (zZ s2.heap rs).objs.size) → Ts.Nodup →
      (∀ b o, s2.heap.get? b = some o → h2.get? b = some o) → EP X pins σ Q (.ref (zZ s2.heap rs).objs.size) { s2 with heap := h2 } := by
    intro h2 Ts cc hlen hl ht hnew nd kept
    have bigS : s2.heap.objs.size ≤ (zZ s2.heap rs).objs.size := by rw [N4]; exact Nat.le_trans (Nat.le_add_right _ _) (Nat.le_add_right _ _)
    have nT : ∀ T ∈ Ts, H1 T = none := fun T hT => I2.hok.fresh (hnew T hT).1
    have nS : H1 (zZ s2.heap rs).objs.size = none := I2.hok.fresh bigS
    have Sno : (zZ s2.heap rs).objs.size ∉ Ts := fun y => (hnew _ y).2 rfl
    refine ⟨.ref (zZ s2.heap rs).objs.size, _, Inv_many (t' := s2.toks) I2 kept (fun b u y => ?_) (fun b u y yn => ?_), rfl, q Ts _ hlen nd nT nS Sno⟩
    · rw [upd_ne (fun z => by rw [z, nS] at y; cases y), trk_old (fun z => by rw [nT b z] at y; cases y)]
      exact y
    · by_cases hb : b = (zZ s2.heap rs).objs.size
      · subst hb
        rw [upd_same] at y
        cases y
        refine ⟨bigS, by rw [List.length_map, sizeLine_eq]; omega, Ts.map Value.ref, cc, ?_, hl⟩
        have go : ∀ ts : List Addr, Vals (ts.map V.ref) (ts.map Value.ref) := by
          intro ts
          induction ts with
          | nil => exact .nil
          | cons t ts ih => exact .cons rfl ih
        exact go Ts
      · rw [upd_ne hb] at y
        by_cases hb2 : b ∈ Ts
        · obtain ⟨k, hk⟩ := List.getElem?_of_mem hb2
          rw [trk_at nd hk] at y
          cases y
          have hkm : k < m := by rw [← hlen]; exact (List.getElem?_eq_some_iff.mp hk).1
          refine ⟨(hnew b hb2).1, by simp [colV]; rw [sizeLine_eq]; omega, colOf rs.length row k, ?_, ⟨_, ht k b hk, rfl, _, rfl⟩⟩
          rw [Nat.zero_add]
          exact col_vals (m := m) (fun j hj => (hrow j _ (List.getElem?_eq_getElem hj)).2) (fun j hj => (rows j _ (List.getElem?_eq_getElem hj)).2) hkm
        · rw [trk_old hb2, yn] at y
          cases y
  refine call_list_zip hz fun R h1 cc sb hl hR => ?_
  have hh : X.A.in1.handled = none := I2.ok.hd hc
  have lat : ∀ (n : Nat) (r : List Addr), (∀ j, j < n → j < r.length) → True := fun _ _ _ => True.intro
  have zS : (zO s2.heap rs).objs.size ≠ (zZ s2.heap rs).objs.size := by rw [N3, N4]; exact Nat.ne_of_lt (by omega)
  have up : ∀ b o, b ≠ (zZ s2.heap rs).objs.size → (zZ s2.heap rs).get? b = some o → h1.get? b = some o := fun b o hb y => (sb.2 b hb).trans (Heap.get?_push_of_some _ y)
  have ltS : ∀ b o, s2.heap.get? b = some o → b ≠ (zZ s2.heap rs).objs.size := fun b o y => by rw [N4]; exact Nat.ne_of_lt (Nat.lt_of_lt_of_le (Heap.lt_size y) (by omega))
  have ltz : ∀ b o, s2.heap.get? b = some o → b ≠ (zO s2.heap rs).objs.size := fun b o y => by rw [N3]; exact Nat.ne_of_lt (Nat.lt_of_lt_of_le (Heap.lt_size y) (by omega))
  by_cases h0 : rs.length = 0
  · have hr : rs = [] := List.length_eq_zero_iff.mp h0
    refine loop_empty hh (up _ _ zS hz) (up _ _ ?_ (by rw [hr] at hTI ⊢; exact hTI)) fun h2 kept => hR h2 (finish h2 [] cc (hm0 hr).symm (kept _ _ zS.symm hl) (fun j T y => by simp at y) (fun T y => nomatch y) .nil fun b o y => kept b o (ltz b o y) (up b o (ltS b o y) (older b o y)))
    rw [N1, N4]
    exact Nat.ne_of_lt (by omega)
  · have hn : 0 < rs.length := Nat.pos_of_ne_zero h0
    have lj : ∀ j, j < rs.length → rs[j]? = some (rs[j]?.getD 0) := fun j hj => by rw [List.getElem?_eq_getElem hj]; rfl
    have llt : ∀ j, j < rs.length → rs[j]?.getD 0 < s2.heap.objs.size := fun j hj => by
      obtain ⟨o, ho, _⟩ := (hrow j _ (lj j hj)).1
      exact Heap.lt_size ho
    have szr : ∀ j, j < rs.length → (row j).size = m := fun j hj => by
      have a1 := (hrow j _ (lj j hj)).2.length
      have a2 := (rows j _ (lj j hj)).2
      rw [← Array.length_toList]
      exact a1.symm.trans a2
    have D : Apart rs.length (fun j => s2.heap.objs.size + j) (fun j => rs[j]?.getD 0) (zO s2.heap rs).objs.size (pushIts s2.heap rs).objs.size (zI s2.heap rs).objs.size := {
      ii := fun i j hi hj ne => fun y => ne (Nat.add_left_cancel y)
      il := fun i j hi hj => Nat.ne_of_lt (Nat.lt_of_lt_of_le (llt i hi) (Nat.le_add_right _ _))
      iz := fun i hi => by rw [N3]; exact Nat.ne_of_lt (by omega)
      lz := fun i hi => by rw [N3]; exact Nat.ne_of_lt (Nat.lt_of_lt_of_le (llt i hi) (by omega))
      iT := fun i hi => by rw [N1]; exact Nat.ne_of_lt (by omega)
      iO := fun i hi => by rw [N2]; exact Nat.ne_of_lt (by omega)
      lO := fun i hi => by rw [N2]; exact Nat.ne_of_lt (Nat.lt_of_lt_of_le (llt i hi) (by omega))
      Tz := by rw [N1, N3]; exact Nat.ne_of_lt (by omega)
      Oz := by rw [N2, N3]; exact Nat.ne_of_lt (by omega)
      TO_ := by rw [N1, N2]; exact Nat.ne_of_lt (by omega) }
    have hp : ((zZ s2.heap rs).push { cls := .type "list", data := .seq #[] }).objs.size = s2.heap.objs.size + rs.length + 4 := by rw [Heap.size_push, N4]
    have DS : ApartS ((zZ s2.heap rs).push { cls := .type "list", data := .seq #[] }) rs.length (fun j => s2.heap.objs.size + j) (fun j => rs[j]?.getD 0) (zO s2.heap rs).objs.size (pushIts s2.heap rs).objs.size (zI s2.heap rs).objs.size (zZ s2.heap rs).objs.size := {
      D := D
      Sz := zS.symm
      SI := by rw [N4, N1]; exact Nat.ne_of_gt (by omega)
      SO := by rw [N4, N2]; exact Nat.ne_of_gt (by omega)
      Si := fun j hj => by rw [N4]; exact Nat.ne_of_gt (by omega)
      Sl := fun j hj => by rw [N4]; exact Nat.ne_of_gt (Nat.lt_of_lt_of_le (llt j hj) (by omega))
      oz := by rw [hp, N3]; exact (by omega : s2.heap.objs.size + rs.length + 2 < s2.heap.objs.size + rs.length + 4)
      oO := by rw [hp, N2]; exact (by omega : s2.heap.objs.size + rs.length + 1 < s2.heap.objs.size + rs.length + 4)
      oS := by rw [hp, N4]; exact (by omega : s2.heap.objs.size + rs.length + 3 < s2.heap.objs.size + rs.length + 4)
      oi := fun j hj => by rw [hp]; exact (by omega : s2.heap.objs.size + j < s2.heap.objs.size + rs.length + 4) }
    refine cols_loop (A := X.A.in1) (m := m) (row := row) hh DS hn h24 szr hm .none m 0 _ [] cc (Nat.sub_zero m) (Nat.zero_le _) ⟨hl, rfl, fun j T y => by simp at y, fun T y => (nomatch y), .nil, fun b o y1 _ _ _ y => (sb.2 b y1).trans y⟩ ⟨.inl ⟨rfl, up _ _ zS hz, _, up _ _ (DS.SO).symm hTO, ?_⟩, up _ _ (DS.SI).symm ?_, ⟨fun j hj => ?_, fun j hj => ?_⟩⟩ (by rw [sb.1]; exact Nat.le_refl _) ?_
    · rw [List.length_map, itsAt_refs]
      simp [refsOf]
    · rw [itsAt_refs] at hTI
      exact hTI
    · rw [if_neg (Nat.not_lt_zero j)]
      exact ⟨_, up _ _ (DS.Si j hj).symm (hit j _ (lj j hj)), rfl, rfl⟩
    · exact (hrow j _ (lj j hj)).1.at fun o y => up _ o (ltS _ o y) (older _ o y)
    · intro h2 Ts c2 B
      refine hR h2 (finish h2 Ts c2 B.len B.lis B.tup (fun T hT => ?_) B.nd fun b o y => B.kept b o (ltS b o y) (ltz b o y) ?_ (fun j hj => ?_) (Heap.get?_push_of_some _ (older b o y)))
      · have := (B.new T hT).1
        rw [hp] at this
        refine ⟨Nat.le_trans (by omega) this, ?_⟩
        rw [N4]
        exact Nat.ne_of_gt (Nat.lt_of_lt_of_le (by omega) this)
      · rw [N2]
        exact Nat.ne_of_lt (Nat.lt_of_lt_of_le (Heap.lt_size y) (by omega))
      · exact Nat.ne_of_lt (Nat.lt_of_lt_of_le (Heap.lt_size y) (Nat.le_add_right _ _))
end U

namespace U
open PySem L2
open Evl (Ex fresh_back sz_of sz_lt sq_of st_of rLenS rListS)
section
variable {K : PySem.W.Frag} {σ : L2.St} {B B' H : Hp} {g : TG} {t : TGs} {v : V} {vs : List V} {d : Dt} {ds : List Dt} {n i : Nat} {k' : L2.St → Hp → Prop}
theorem g_tupR (e : Ex B H) (r : R B v (.tup ds)) (hn : ds.length = n) (h : ∀ vs, RA B vs ds → t vs σ H k') : gTup K n t v σ H k' := by
  obtain ⟨p, xs, rfl, hp, ra⟩ := r.tup_inv
  exact ⟨p, xs, rfl, st_of (e _ _ hp), by rw [ra.len, hn], h xs ra⟩
theorem g_lstR (e : Ex B H) (r : R B v (.lst ds)) (hn : ds.length = n) (h : ∀ vs, RA B vs ds → t vs σ H k') : gLst K n t v σ H k' := by
  obtain ⟨p, xs, rfl, hp, ra⟩ := r.lst_inv
  exact ⟨p, xs, rfl, sq_of (e _ _ hp), by rw [ra.len, hn], h xs ra⟩
theorem g_consR (ra : RA B vs (d :: ds)) (h : ∀ v ws, R B v d → RA B ws ds → g v σ H fun σ1 H1 => t ws σ1 H1 k') : gCons g t vs σ H k' := by
  cases ra with | cons a b => exact ⟨_, _, rfl, h _ _ a b⟩
theorem g_nilR (ra : RA B vs []) (h : k' σ H) : gNil vs σ H k' := by
  cases ra
  exact ⟨rfl, h⟩
end

/-! ### walks whose items may be new -/
def LoopN (J : It) (B1 : Hp) (ds : List Dt) : Prop := Walk J ds.length (Ex B1) fun i H x H' => ∀ B', Ex B1 B' → Ex B' H → ∃ B2 d, ds[i]? = some d ∧ New B' H B2 H' ∧ R B2 x d
def GoesN (wi : TI) (σ : L2.St) (B : Hp) (ds : List Dt) : Prop := ∀ H, Ex B H → ∀ Z : It → Hp → Prop, (∀ J B1 H1, New B H B1 H1 → LoopN J B1 ds → Z J H1) → wi σ H Z
section
variable {K : PySem.W.Frag} {σ : L2.St} {B B' H : Hp} {ta tb te : TE} {tl : TA} {tt : TT} {tu : TS} {D : Ends} {g : TG} {wi : TI} {d x y : Dt} {ds es : List Dt} {n i j : Nat}
theorem GoesN.up (h : GoesN wi σ B ds) (e : Ex B B') : GoesN wi σ B' ds := fun H e1 Z z => h H (e.trans e1) Z fun J B1 H1 nw lp =>
  z J (join B' B1) H1 ⟨join_l, join_sub (e1.trans nw.heap) nw.sub, nw.heap, fun p h1 h2 => by
    unfold join
    rw [h1]
    exact nw.fresh p (fresh_back e h1) h2⟩ (lp.mono (fun _ q => (join_r (e1.trans nw.heap) nw.sub).trans q) fun i H x H' _ _ q B2 e2 => q B2 ((join_r (e1.trans nw.heap) nw.sub).trans e2))
theorem loopN_at {J : It} {B1 : Hp} {us : List V} (ra : RA B1 us ds) (w : Walk J us.length (Ex B1) (YAt us)) : LoopN J B1 ds := by
  unfold LoopN
  rw [← ra.len]
  refine w.mono (fun _ q => q) fun i H x H' hi e y B' e1 e2 => ?_
  obtain ⟨rfl, hx⟩ := y
  obtain ⟨d, hd, rd⟩ := ra.getV hx
  exact ⟨B', d, hd, New.refl e2, rd.mono e1⟩
theorem goesN_seq (h : EvR ta σ B d) (it : Items d ds) : GoesN (iSeq K ta) σ B ds := fun H e Z z => h H e _ fun v B1 H1 n rv => by
  cases it with
  | lst =>
    obtain ⟨p, us, rfl, hp, ra⟩ := rv.lst_inv
    exact ⟨p, rfl, .inl ⟨⟨us, sq_of (n.sub _ _ hp)⟩, z _ B1 H1 n (loopN_at ra (walk_list.mono (fun H' e => sq_of (e _ _ hp)) fun _ _ _ _ _ _ y => y))⟩⟩
  | tup =>
    obtain ⟨p, us, rfl, hp, ra⟩ := rv.tup_inv
    exact ⟨p, rfl, .inr ⟨⟨us, st_of (n.sub _ _ hp)⟩, z _ B1 H1 n (loopN_at ra (walk_tup.mono (fun H' e => st_of (e _ _ hp)) fun _ _ _ _ _ _ y => y))⟩⟩
/-- a new pair -/
theorem pair_step {B' H H' : Hp} {v : V} {xs ys : Nat → Option V} {a b : Dt} (y : YPair xs ys i H v H') (e : Ex B' H) (hx : ∀ x, xs i = some x → R B' x a) (hy : ∀ x, ys i = some x → R B' x b) : ∃ B2, New B' H B2 H' ∧ R B2 v (.tup [a, b]) := by
  obtain ⟨T, p, q, rfl, hT, rfl, h1, h2⟩ := y
  have n := New.one (o := .tup [p, q]) e hT
  exact ⟨_, n, .tup upd_same (.cons ((hx p h1).mono n.ext) (.cons ((hy q h2).mono n.ext) .nil))⟩
/-- the signs of a text with the data of a tuple -/
def zipS (z : Str) (ds : List Dt) : List Dt := (z.cps.toList.zip ds).map fun p => .tup [.str ⟨#[p.1]⟩, p.2]
theorem goesN_zipS {z : Str} (h : EvRA tl σ B [.str z, .tup ds]) : GoesN (iZipS K tl) σ B (zipS z ds) := fun H e Z zz => h H e _ fun vs B1 H1 n ra => by
  cases ra with | cons r1 ra =>
  cases ra with | cons r2 ra =>
  cases ra
  cases r1
  obtain ⟨p, us, rfl, hp, ra⟩ := r2.tup_inv
  refine ⟨z, p, us, rfl, st_of (n.sub _ _ hp), zz _ B1 H1 n ?_⟩
  have hl : (zipS z ds).length = min z.cps.size us.length := by
    unfold zipS
    rw [List.length_map, List.length_zip, ra.len, Array.length_toList]
  unfold LoopN
  rw [hl]
  refine (walk_zipS (K := K) (x := z) (a := p) (ys := us)).mono (fun H' e' => st_of (e' _ _ hp)) fun i H x H' hi e' y B' e1 e2 => ?_
  have i1 : i < z.cps.toList.length := by rw [Array.length_toList]; omega
  have i2 : i < ds.length := by rw [← ra.len]; omega
  obtain ⟨B2, n2, r⟩ := pair_step (B' := B') (a := .str ⟨#[z.cps.toList[i]]⟩) (b := ds[i]) y e2 (fun x hx => by
    have q : z.cps[i]? = some z.cps.toList[i] := by rw [← Array.getElem?_toList]; exact List.getElem?_eq_getElem i1
    rw [q] at hx
    cases hx
    exact .str _) (fun x hx => by
    obtain ⟨d, hd, rd⟩ := ra.getV hx
    rw [List.getElem?_eq_getElem i2] at hd
    cases hd
    exact rd.mono e1)
  refine ⟨B2, _, ?_, n2, r⟩
  unfold zipS
  rw [List.getElem?_map, List.getElem?_zip_eq_some (z := (z.cps.toList[i], ds[i])) |>.mpr ⟨List.getElem?_eq_getElem i1, List.getElem?_eq_getElem i2⟩]
  rfl
/-- enumerate -/
def enumD (ds : List Dt) : List Dt := ds.zipIdx.map fun p => .tup [.int (p.2 : Nat), p.1]
theorem goesN_enum (h : EvRA tl σ B [.lst ds]) : GoesN (iEnum K tl) σ B (enumD ds) := fun H e Z zz => h H e _ fun vs B1 H1 n ra => by
  cases ra with | cons r2 ra =>
  cases ra
  obtain ⟨p, us, rfl, hp, ra⟩ := r2.lst_inv
  refine ⟨p, us, rfl, sq_of (n.sub _ _ hp), zz _ B1 H1 n ?_⟩
  have hl : (enumD ds).length = us.length := by
    unfold enumD
    rw [List.length_map, List.length_zipIdx, ra.len]
  unfold LoopN
  rw [hl]
  refine (walk_enum (K := K) (a := p) (xs := us)).mono (fun H' e' => sq_of (e' _ _ hp)) fun i H x H' hi e' y B' e1 e2 => ?_
  have i2 : i < ds.length := by rw [← ra.len]; omega
  obtain ⟨B2, n2, r⟩ := pair_step (B' := B') (a := .int (i : Nat)) (b := ds[i]) y e2 (fun x hx => by
    cases hx
    exact .int _) (fun x hx => by
    obtain ⟨d, hd, rd⟩ := ra.getV hx
    rw [List.getElem?_eq_getElem i2] at hd
    cases hd
    exact rd.mono e1)
  refine ⟨B2, _, ?_, n2, r⟩
  unfold enumD
  rw [List.getElem?_map, List.getElem?_zipIdx, List.getElem?_eq_getElem i2]
  simp
/-- a comprehension over such -/
theorem el_lcN {α : Type} {l : List α} {enc : α → Dt} {c : α → Bool} {f : α → Dt} {vs : List Nat} (h : GoesN wi σ B (l.map enc)) (hz : l.length < 100000)
    (hs : ∀ q v B1 H1 (k' : L2.St → Hp → Prop), q ∈ l → Ex B B1 → Ex B1 H1 → R B1 v (enc q) → (∀ σ2, wipe σ2 vs = wipe σ vs → EvC tt σ2 B1 (c q) → (c q = true → EvR te σ2 B1 (f q)) → k' σ2 H1) → g v (wipe σ vs) H1 k') :
    EvL (tLc wi g tt te vs) σ B ((l.filter c).map f) := fun H0 e0 Q k => h H0 e0 _ fun J B1 H1 n lp D hD => by
  unfold LoopN at lp
  rw [List.length_map] at lp
  refine lc_it lp (fun i H' => ∃ B' acc, New B1 H1 B' H' ∧ Own H1 B' H' D acc ∧ RA B' acc (((l.take i).filter c).map f)) ?_ ?_ ?_ ?_
  · exact ⟨B1, [], ⟨Evl.Ex.refl _, Evl.Ex.mut n.sub (fresh_back n.sub hD), Evl.Ex.new hD, fun _ h _ => h⟩, ⟨hD, fresh_back n.sub hD, upd_same⟩, .nil⟩
  · rintro i H' _ ⟨B', acc, n', _, _⟩
    exact n'.ext.trans n'.sub
  · rintro i x H' H'' hi ⟨B', acc, n', o, ra⟩ y
    obtain ⟨B2, d, hd, n2, rx⟩ := y B' n'.ext n'.sub
    rw [List.getElem?_map] at hd
    cases hq : l[i]? with
    | none => rw [hq] at hd; cases hd
    | some a =>
    rw [hq] at hd; cases hd
    have hm := List.mem_of_getElem? hq
    have o2 := o.step n2
    have hst := outs_step (c := c) (f := f) hq
    refine hs a x B2 H'' _ hm (n.ext.trans (n'.ext.trans n2.ext)) n2.sub rx fun σ2 w2 ht he => ⟨w2, ht H'' n2.sub _ fun H3 e3 => ?_⟩
    have n3 : New B2 H'' B2 H3 := New.grow (n2.sub.trans e3) e3 n2.sub
    cases hc : c a with
    | true =>
      rw [hc, if_pos rfl] at hst
      refine he hc H3 n3.sub _ fun w B4 H4 n4 rw' => ?_
      have o4 := (o2.step n3).step n4
      refine ⟨acc, o4.h, sz_lt (by rw [ra.len]; exact Nat.lt_of_le_of_lt (outs_len i) hz), B4, acc ++ [w], ((((n'.trans n2).trans n3).trans n4).put o4), o4.put, ?_⟩
      rw [hst]
      exact (ra.mono (n2.ext.trans n4.ext)).append (RA.one rw')
    | false =>
      rw [hc, if_neg (by simp)] at hst
      exact ⟨B2, acc, (n'.trans n2).trans n3, o2.step n3, by rw [hst]; exact ra.mono n2.ext⟩
  · rintro H' ⟨B', acc, n', o, ra⟩
    rw [List.take_length] at ra
    exact k D acc B' H' (n.trans n') ⟨fresh_back n.heap o.h0, o.b, o.h⟩ ra
theorem el_lcN1 {α : Type} {l : List α} {enc : α → Dt} {f : α → Dt} {vs : List Nat} (h : GoesN wi σ B (l.map enc)) (hz : l.length < 100000)
    (hs : ∀ q v B1 H1 (k' : L2.St → Hp → Prop), q ∈ l → Ex B B1 → Ex B1 H1 → R B1 v (enc q) → (∀ σ2, wipe σ2 vs = wipe σ vs → EvR te σ2 B1 (f q) → k' σ2 H1) → g v (wipe σ vs) H1 k') :
    EvL (tLc wi g tYes te vs) σ B (l.map f) := by
  have := el_lcN (tt := tYes) (te := te) (g := g) (c := fun _ => true) (f := f) h hz (fun q v B1 H1 k' h1 h2 h3 h4 h5 => hs q v B1 H1 k' h1 h2 h3 h4 fun σ2 w2 he => h5 σ2 w2 ec_yes fun _ => he)
  rw [List.filter_eq_self.mpr (fun _ _ => rfl)] at this
  exact this
/-- a for over such -/
theorem s_forN {α : Type} {l : List α} {enc : α → Dt} (e : Ex B H) (h : GoesN wi σ B (l.map enc)) (Pv : Nat → L2.St → Hp → Hp → Prop) (h0 : ∀ B1 H1, New B H B1 H1 → Pv 0 σ B1 H1)
    (hs : ∀ B1 i q v σ' B0 H0 B' H', New B0 H0 B' H' → Ex B1 B0 → l[i]? = some q → R B' v (enc q) → Pv i σ' B0 H0 →
      g v σ' H' fun σ2 H2 => tu { D with nx := fun σ3 H3 => ∃ B3, Ex B1 B3 ∧ Ex B3 H3 ∧ Pv (i + 1) σ3 B3 H3, ct := fun σ3 H3 => ∃ B3, Ex B1 B3 ∧ Ex B3 H3 ∧ Pv (i + 1) σ3 B3 H3, bk := D.nx } σ2 H2)
    (hd : ∀ σ' B' H', Ex B' H' → Pv l.length σ' B' H' → D.nx σ' H') : tFor wi g tu D σ H := h H e _ fun J B1 H1 n lp => by
  unfold LoopN at lp
  rw [List.length_map] at lp
  refine for_it lp (fun i σ' H' => ∃ B', Ex B1 B' ∧ Ex B' H' ∧ Pv i σ' B' H') ⟨B1, Evl.Ex.refl _, n.sub, h0 B1 H1 n⟩ ?_ ?_ ?_
  · rintro i σ' H' _ ⟨B', a, b, _⟩
    exact a.trans b
  · rintro i x σ' H' H'' hi ⟨B', a, b, c⟩ y
    obtain ⟨B2, d, hd', n2, rx⟩ := y B' a b
    rw [List.getElem?_map] at hd'
    cases hq : l[i]? with
    | none => rw [hq] at hd'; cases hd'
    | some q =>
    rw [hq] at hd'; cases hd'
    exact hs B1 i q x σ' B' H' B2 H'' n2 a hq rx c
  · rintro σ' H' ⟨B', a, b, c⟩
    exact hd σ' B' H' b c

/-! ### bits -/
theorem rv_shl1 {k : Nat} (hk : k ≤ 134217727) : RV (fun x y H Q => ∃ k : Nat, x = .int 1 ∧ y = .int (k : Int) ∧ k ≤ 134217727 ∧ Q (.int (2 ^ k)) H) (.int 1) (.int (k : Nat)) (.int (2 ^ k)) := fun B H1 v w e r1 r2 Q q => by
  cases r1; cases r2
  exact ⟨k, rfl, rfl, hk, q _ B H1 (New.refl e) (.int _)⟩
theorem rv_and {a b : Int} : RV (rI0 fun i j => .int (Builtin.bitAnd i j)) (.int a) (.int b) (.int (Builtin.bitAnd a b)) := rv_I0 (g' := fun i j => .int (Builtin.bitAnd i j)) fun _ _ _ => .int _
theorem ev_bits {a : Int} (h : EvR te σ B (.int a)) : EvR (tBits te) σ B (.int (Builtin.Int.intBits a : Nat)) := fun H1 e Q q => h H1 e _ fun v B2 H2 n rv => by
  cases rv
  exact ⟨a, rfl, q _ B2 H2 n (.int _)⟩

/-! ### p.extend(e) -/
theorem s_ext {H0 : Hp} {p : Addr} {vs : List V} {n : Nat} (e : Ex B H) (o : Own H0 B H p vs) (hv : σ[n]? = some (some (.ref p))) (h : EvR te σ B (.lst ds)) (hz : vs.length + ds.length ≤ 100000)
    (k : ∀ ws B1 H1, New B H B1 H1 → Own H0 B1 H1 p vs → RA B1 ws ds → D.nx σ (upd H1 p (.lst (vs ++ ws)))) : tDrop (tBM K "list" rExtend (tVar n) (tCons te tNil)) D σ H :=
  ⟨_, hv, .inl ⟨rfl, _, .inl (.inl o.h)⟩, h H e _ fun v B1 H1 nw rv => by
    obtain ⟨b, ws, rfl, hb, ra⟩ := rv.lst_inv
    exact ⟨p, b, vs, ws, rfl, rfl, (o.step nw).h, nw.sub _ _ hb, by rw [ra.len]; exact sz_of hz, k ws B1 H1 nw (o.step nw) ra⟩⟩
end
end U

namespace U
open PySem PySem.Spec PySem.Calls PyProof.Rows L2
open Evl (Ex fresh_back sz_of sz_lt sq_of st_of rLenS rListS)
section
variable {X : Cx} {pos : Pos}
theorem pgs_star {e : Expr} {p : Pos} {es : List Expr} {t : TG} {u : TGs} (h1 : PG X e t) (h2 : PGs X es u)
    (hs : (assignEach (.Starred e p :: es) X.env).map (·.2) = assign e X.env :: (assignEach es X.env).map (·.2) := by rfl) : PGs X (.Starred e p :: es) (gCons t u) := by
  refine ⟨fun pins s σ H vs us Q I r h => ?_⟩
  obtain ⟨v, vr, e1, h⟩ := h
  subst e1
  cases r with
  | cons r rr =>
    rw [hs]
    refine assignInOrder_cons (thn (h1.run pins s σ H _ _ _ I r h) fun _ s1 ⟨σ1, H1, I1, q1⟩ => ?_)
    exact h2.run pins s1 σ1 H1 _ _ Q I1 rr q1
/-- a, .., *b, .., c = a tuple: n targets, the star at i -/
def gStar (K : PySem.W.Frag) (n i : Nat) (t : TGs) : TG := fun v σ H Q => ∃ a xs, v = .ref a ∧ SqT K H a xs ∧ n ≤ xs.length + 1 ∧ xs.length ≤ 16384 ∧
  ∀ D, H D = none → t (xs.take i ++ [.ref D] ++ (xs.drop i).drop (xs.length + 1 - n)) σ (upd H D (.lst ((xs.drop i).take (xs.length + 1 - n)))) Q
theorem Vals.takeV : ∀ {xs : List V} {us : List Value} (k : Nat), Vals xs us → Vals (xs.take k) (us.take k)
  | _, _, 0, _ => .nil
  | _, _, _ + 1, .nil => .nil
  | _, _, k + 1, .cons a b => .cons a (Vals.takeV k b)
theorem Vals.dropV : ∀ {xs : List V} {us : List Value} (k : Nat), Vals xs us → Vals (xs.drop k) (us.drop k)
  | _, _, 0, h => h
  | _, _, _ + 1, .nil => .nil
  | _, _, k + 1, .cons a b => Vals.dropV k b
theorem star_items {A : Around} {prog : Program} {w : World} {E : Value → Shared → Prop} {s : Shared} {l : Addr} {items : Array Value} {n i : Nat} {Q : List Value → Shared → Prop} (hl : IsTup s.heap l items) (hh : A.handled = none) (hi : i < n) (hn : n ≤ items.size + 1) (hz : items.size ≤ 16384)
    (h : ∀ h₂ tk, (∀ b o, s.heap.get? b = some o → h₂.get? b = some o) → wpAny (model prog w) A (newList ((items.toList.drop i).take (items.size + 1 - n))) (fun d s' => Q (items.toList.take i ++ [d] ++ (items.toList.drop i).drop (items.size + 1 - n)) s') E { s with heap := h₂, toks := tk }) :
    wpAny (model prog w) A (unpackItems (.ref l) n (some i)) Q E s := by
  have hlt : l ≠ s.heap.objs.size := by obtain ⟨o, ho, _⟩ := hl; exact Nat.ne_of_lt (Heap.lt_size ho)
  unfold unpackItems
  refine wpAny_bind ?_
  unfold notIterableAtAll
  refine wpAny_bind (wpAny_specialOf hl.typeIs slot_tuple_iter.lookup ?_)
  refine wpAny_pure ?_
  simp only [Bool.false_eq_true, if_false]
  refine wpAny_bind (wpAny_holding (iter_tuple hl ?_))
  refine wpAny_bind (wpAny_holding (draw_tuple hlt i 0 _ _ ⟨_, Heap.get?_push_size _ rfl, rfl, rfl⟩ (hl.push _) (by omega) fun h₁ hit₁ hs₁ => ?_))
  have hl₁ : IsTup h₁ l items := (hl.push _).extBut hs₁.extBut hlt
  rw [Nat.zero_add] at hit₁
  have hit₁' := hit₁
  obtain ⟨oi, hoi, _⟩ := hit₁'
  have hl₁' := hl₁
  obtain ⟨ol, hol, _⟩ := hl₁'
  rw [List.drop_zero]
  have hfl : (items.toList.take i).length = i := by rw [List.length_take, Array.length_toList]; omega
  rw [if_neg (show ¬ ((items.toList.take i).length < i) by rw [hfl]; omega)]
  refine wpAny_bind (wpAny_holding (PySem.W.kun_collect (s := { s with heap := h₁ }) (T := "tuple_iterator") (.inr (.inr (.inr rfl))) (Walks.tuple (A := A.in1) hh s.heap.objs.size l hlt items) (fun j u st => st.1.typeIs) (k := i) (by omega) ⟨hit₁, hl₁⟩ (Heap.lt_size hoi) (Heap.lt_size hol) (fun h₂ tk hk => ?_) (by rw [sizeLine_eq]; omega)))
  have hrl : (items.toList.drop i).length = items.size - i := by rw [List.length_drop, Array.length_toList]
  have hmid : (items.toList.drop i).length - (n - 1 - i) = items.size + 1 - n := by rw [hrl]; omega
  show wpAny _ _ (if (items.toList.drop i).length < n - 1 - i then _ else _) _ _ _
  rw [if_neg (by rw [hrl]; omega)]
  show wpAny _ _ (newList ((items.toList.drop i).take ((items.toList.drop i).length - (n - 1 - i))) >>= fun d => pure (items.toList.take i ++ [d] ++ (items.toList.drop i).drop ((items.toList.drop i).length - (n - 1 - i)))) _ _ _
  rw [hmid]
  have he : ∀ b o, s.heap.get? b = some o → h₂.get? b = some o := fun b o e => hk b o (Nat.ne_of_lt (Heap.lt_size e)) (hs₁.extBut b o (Nat.ne_of_lt (Heap.lt_size e)) (Heap.get?_push_of_some _ e))
  exact wpAny_bind (wpAny_mono (h h₂ tk he) (fun d s' q => wpAny_pure q) (fun _ _ z => z))
theorem pg_star {es : List Expr} {k : Nat} {t : TGs} {n i : Nat} (hc : X.calm = true) (h : PGs X es t) (hi : i < n := by decide)
    (hn : (assignEach es X.env).length = n := by rfl) (hst : (assignEach es X.env).findIdx? (·.1) = some i := by rfl) : PG X (.Tuple es k pos) (gStar X.K n i t) := by
  refine ⟨fun pins s σ H v u Q I r hw => ?_⟩
  obtain ⟨a, xs, e1, hq, hl, hz, hw⟩ := hw
  subst e1
  cases r
  obtain ⟨its, rv, ht, _⟩ := I.tuple hq
  have hsz : its.toArray.size = xs.length := by rw [List.size_toArray, rv.length]
  rw [assign_Tuple]
  refine wpAny_bind (wpAny_standAt ?_)
  unfold unpack
  rw [hn, hst]
  refine wpAny_bind (wpAny_holding (star_items ht (I.ok.hd hc) hi (by omega) (by omega) fun h₂ tk he => ?_))
  have I1 : Inv X pins σ H { s with heap := h₂, toks := tk } := I.kept (t' := tk) he
  rw [hsz]
  refine wpAny_newList ?_ ?_
  · have rm : Vals ((xs.drop i).take (xs.length + 1 - n)) ((its.drop i).take (xs.length + 1 - n)) := Vals.takeV _ (Vals.dropV _ rv)
    have lm : ((xs.drop i).take (xs.length + 1 - n)).length ≤ sizeLine := by
      rw [List.length_take, List.length_drop, sizeLine_eq]; omega
    have I2 := I1.lnew (t' := tk) rm lm
    refine h.run pins _ σ _ _ _ Q I2 ?_ (hw _ I1.fresh)
    exact ((Vals.takeV _ rv).append (.cons (show RelV (.ref _) (.ref _) from rfl) .nil)).append (Vals.dropV _ (Vals.dropV _ rv))
  · rw [List.length_take, List.length_drop, sizeLine_eq]
    simp
    omega
end
section
variable {K : PySem.W.Frag} {B H : Hp} {σ : L2.St} {v : V} {d : Dt} {ds : List Dt} {i j : Nat} {k' : L2.St → Hp → Prop} {te : TE} {D : Ends}
/-- a, *b = e -/
theorem s_asgStar (e : Ex B H) (h : EvR te σ B (.tup (d :: ds))) (hl : ds.length ≤ 10000) (go : ∀ v p vs B1 H1, New B H B1 H1 → Own H B1 H1 p vs → R B1 v d → RA B1 vs ds → D.nx ((σ.set i (some v)).set j (some (.ref p))) H1) :
    tAsg te (gStar K 2 1 (gCons (gName i) (gCons (gName j) gNil))) D σ H := h H e _ fun w B1 H1 n rv => by
  obtain ⟨p, vs, rfl, hp, ra⟩ := rv.tup_inv
  cases ra with
  | cons r1 ra =>
    rename_i v vs
    have hvl := ra.len
    refine ⟨p, v :: vs, rfl, st_of (n.sub _ _ hp), by simp, by rw [List.length_cons]; omega, fun a ha => ?_⟩
    refine ⟨v, _, rfl, .ref a, [], ?_, rfl, ?_⟩
    · show [.ref a] ++ (vs.drop (vs.length + 1 + 1 - 2)) = _
      rw [List.drop_of_length_le (by omega)]
      rfl
    · show D.nx _ (upd H1 a (.lst (vs.take (vs.length + 1 + 1 - 2))))
      rw [List.take_of_length_le (by omega)]
      exact go v a vs B1 _ (n.trans (own_new n.sub ha).1) (n.own (own_new n.sub ha).2) r1 ra
end
end U

namespace U
open PySem L2
open Evl (Ex fresh_back sz_of sz_lt sq_of st_of rLenS rListS)
section
variable {J : It} {n : Nat} {G : Hp → Prop} {Y : Nat → Hp → V → Hp → Prop}
theorem walk_loop (w : Walk J n G Y) (S : V → Hp → (Hp → Prop) → Prop) (Fin : Hp → Prop) {H4 : Hp} (Pv : Nat → Hp → Prop) (h0 : Pv 0 H4) (hG : ∀ i H, i ≤ n → Pv i H → G H)
    (hs : ∀ i x H H', i < n → Pv i H → Y i H x H' → S x H' (Pv (i + 1))) (hd : ∀ H, Pv n H → Fin H) :
    ∃ W : Nat → Nat → Hp → Prop, (∃ m, W 0 m H4) ∧ ∀ j k H, W j k H → (J.stop j H ∧ Fin H) ∨ (J.go j H ∧ ∃ Nx : Hp → Prop, (∀ H', Nx H' → ∃ k', k' < k ∧ W (j + 1) k' H') ∧ ∀ x H', J.yld j H x H' → S x H' Nx) := by
  refine ⟨fun i m H => m = n - i ∧ i ≤ n ∧ Pv i H, ⟨n, by simp, Nat.zero_le _, h0⟩, ?_⟩
  rintro i m H ⟨rfl, hi, p⟩
  have q := hG i H hi p
  by_cases hlt : i < n
  · exact .inr ⟨w.goes i H hlt q, Pv (i + 1), fun H' p' => ⟨n - (i + 1), by omega, rfl, hlt, p'⟩, fun x H' y => hs i x H H' hlt p (w.yields i H x H' hlt q y)⟩
  · have e : i = n := by omega
    subst e
    exact .inl ⟨w.stops H q, hd H p⟩
end
section
variable {K : PySem.W.Frag} {σ : L2.St} {B B' H : Hp} {ta tb te : TE} {tl : TA} {tt tt1 : TT} {tu : TS} {D : Ends} {g g1 : TG} {wi wi1 : TI} {d x y : Dt} {ds es : List Dt} {n i j : Nat}
theorem flat_step {α β : Type} {l : List α} {c0 : α → Bool} {F : α → List β} {i : Nat} {a : α} (h : l[i]? = some a) : ((l.take (i + 1)).filter c0).flatMap F = if c0 a = true then ((l.take i).filter c0).flatMap F ++ F a else ((l.take i).filter c0).flatMap F := by
  rw [List.take_add_one, h, Option.toList_some, List.filter_append, List.flatMap_append]
  by_cases hc : c0 a = true
  · rw [if_pos hc, List.filter_cons, if_pos hc]
    simp
  · rw [if_neg hc, List.filter_cons, if_neg hc]
    simp
theorem flat_len {α β : Type} {l : List α} {c0 : α → Bool} {F : α → List β} (i : Nat) : (((l.take i).filter c0).flatMap F).length ≤ ((l.filter c0).flatMap F).length := by
  conv => rhs; rw [← List.take_append_drop i l, List.filter_append, List.flatMap_append, List.length_append]
  omega
theorem el_lc2N {α β : Type} {l : List α} {enc : α → Dt} {c0 : α → Bool} {ms : α → List β} {enc1 : β → Dt} {c : α → β → Bool} {f : α → β → Dt} {vs vs1 : List Nat} (ho : GoesN wi σ B (l.map enc))
    (hz : ((l.filter c0).flatMap fun a => ((ms a).filter (c a)).map (f a)).length < 100000)
    (hs : ∀ a v B1 H1 (k' : L2.St → Hp → Prop), a ∈ l → Ex B B1 → Ex B1 H1 → R B1 v (enc a) →
      (∀ σ2, wipe σ2 vs = wipe σ vs → EvC tt σ2 B1 (c0 a) → (c0 a = true → GoesN wi1 σ2 B1 ((ms a).map enc1)) →
        (c0 a = true → ∀ b u B2 H2 (k2 : L2.St → Hp → Prop), b ∈ ms a → Ex B1 B2 → Ex B2 H2 → R B2 u (enc1 b) → (∀ σ3, wipe σ3 vs1 = wipe σ2 vs1 → EvC tt1 σ3 B2 (c a b) → (c a b = true → EvR te σ3 B2 (f a b)) → k2 σ3 H2) → g1 u (wipe σ2 vs1) H2 k2) → k' σ2 H1) → g v (wipe σ vs) H1 k') :
    EvL (tLc2 wi g tt wi1 g1 tt1 te vs vs1) σ B ((l.filter c0).flatMap fun a => ((ms a).filter (c a)).map (f a)) := fun H0 e0 Q k => ho H0 e0 _ fun J B1 H1 nw lp D hD => by
  unfold LoopN at lp
  rw [List.length_map] at lp
  refine walk_loop lp (fun x H' Nx => g x (wipe σ vs) H' fun σ2 H2 => wipe σ2 vs = wipe σ vs ∧ tt σ2 H2 fun b H3 => if b = true then _ else Nx H3) _ (fun i H' => ∃ B' acc, New B1 H1 B' H' ∧ Own H1 B' H' D acc ∧ RA B' acc (((l.take i).filter c0).flatMap fun a => ((ms a).filter (c a)).map (f a))) ?_ ?_ ?_ ?_
  · exact ⟨B1, [], ⟨Evl.Ex.refl _, Evl.Ex.mut nw.sub (fresh_back nw.sub hD), Evl.Ex.new hD, fun _ h _ => h⟩, ⟨hD, fresh_back nw.sub hD, upd_same⟩, .nil⟩
  · rintro i H' _ ⟨B', acc, n', _, _⟩
    exact n'.ext.trans n'.sub
  · rintro i x H' H'' hi ⟨B', acc, n', o, ra⟩ y
    obtain ⟨B2, d, hd, n2, rx⟩ := y B' n'.ext n'.sub
    rw [List.getElem?_map] at hd
    cases hq : l[i]? with
    | none => rw [hq] at hd; cases hd
    | some a =>
    rw [hq] at hd; cases hd
    have hm := List.mem_of_getElem? hq
    have o2 := o.step n2
    have hst := flat_step (c0 := c0) (F := fun a => ((ms a).filter (c a)).map (f a)) hq
    have hfl := flat_len (l := l) (c0 := c0) (F := fun a => ((ms a).filter (c a)).map (f a)) (i + 1)
    refine hs a x B2 H'' _ hm (nw.ext.trans (n'.ext.trans n2.ext)) n2.sub rx fun σ2 w2 ht hg hi1 => ⟨w2, ht H'' n2.sub _ fun H3 e3 => ?_⟩
    have n3 : New B2 H'' B2 H3 := New.grow (n2.sub.trans e3) e3 n2.sub
    have n03 := (n'.trans n2).trans n3
    have o3 := o2.step n3
    have ra3 := ra.mono n2.ext
    cases hc : c0 a with
    | false =>
      rw [hc, if_neg (by simp)] at hst
      exact ⟨B2, acc, n03, o3, by rw [hst]; exact ra3⟩
    | true =>
      rw [hc, if_pos rfl] at hst
      rw [hst, List.length_append, List.length_map] at hfl
      refine (hg hc) H3 n3.sub _ fun J1 B4 H4 n4 lp1 => ?_
      unfold LoopN at lp1
      rw [List.length_map] at lp1
      have n04 := n03.trans n4
      refine walk_loop lp1 (fun y H'' N => g1 y (wipe σ2 vs1) H'' fun σ3 H5 => wipe σ3 vs1 = wipe σ2 vs1 ∧ tt1 σ3 H5 fun b H6 => if b = true then te σ3 H6 fun y H7 => ∃ acc, H7 D = some (.lst acc) ∧ acc.length < sizeLine ∧ N (upd H7 D (.lst (acc ++ [y]))) else N H6) _
        (fun i2 H'' => ∃ B5 acc, Ex B4 B5 ∧ New B1 H1 B5 H'' ∧ Own H1 B5 H'' D acc ∧ RA B5 acc ((((l.take i).filter c0).flatMap fun a => ((ms a).filter (c a)).map (f a)) ++ (((ms a).take i2).filter (c a)).map (f a))) ?_ ?_ ?_ ?_
      · refine ⟨B4, acc, Evl.Ex.refl _, n04, o3.step n4, ?_⟩
        rw [List.take_zero]
        show RA B4 acc (_ ++ [])
        rw [List.append_nil]
        exact ra3.mono n4.ext
      · rintro i2 H'' _ ⟨B5, acc5, e45, n5, _, _⟩
        exact e45.trans n5.sub
      · rintro i2 u G G' hi2 ⟨B5, acc5, e45, n5, o5, ra5⟩ y2
        obtain ⟨B6, d2, hd2, n6, ru⟩ := y2 B5 e45 n5.sub
        rw [List.getElem?_map] at hd2
        cases hq2 : (ms a)[i2]? with
        | none => rw [hq2] at hd2; cases hd2
        | some b =>
        rw [hq2] at hd2; cases hd2
        have hmb := List.mem_of_getElem? hq2
        have o6 := o5.step n6
        have hs2 := outs_step (c := c a) (f := f a) hq2
        refine hi1 hc b u B6 G' _ hmb (n4.ext.trans (e45.trans n6.ext)) n6.sub ru fun σ3 w3 ht1 he1 => ⟨w3, ht1 G' n6.sub _ fun H6 e6 => ?_⟩
        have n7 : New B6 G' B6 H6 := New.grow (n6.sub.trans e6) e6 n6.sub
        have len : ((((l.take i).filter c0).flatMap fun a => ((ms a).filter (c a)).map (f a)) ++ (((ms a).take i2).filter (c a)).map (f a)).length < 100000 := by
          have h2 := ((List.take_sublist i2 (ms a)).filter (c a)).length_le
          rw [List.length_append, List.length_map]
          omega
        cases hc1 : c a b with
        | true =>
          rw [hc1, if_pos rfl] at hs2
          refine he1 hc1 H6 n7.sub _ fun w B8 H8 n8 rw' => ?_
          have o8 := (o6.step n7).step n8
          refine ⟨acc5, o8.h, sz_lt (by rw [ra5.len]; exact len), B8, acc5 ++ [w], e45.trans (n6.ext.trans n8.ext), ((((n5.trans n6).trans n7).trans n8).put o8), o8.put, ?_⟩
          rw [hs2, ← List.append_assoc]
          exact (ra5.mono (n6.ext.trans n8.ext)).append (RA.one rw')
        | false =>
          rw [hc1, if_neg (by simp)] at hs2
          exact ⟨B6, acc5, e45.trans n6.ext, (n5.trans n6).trans n7, o6.step n7, by rw [hs2]; exact ra5.mono n6.ext⟩
      · rintro G ⟨B5, acc5, e45, n5, o5, ra5⟩
        refine ⟨B5, acc5, n5, o5, ?_⟩
        rw [List.take_length] at ra5
        rw [hst]
        exact ra5
  · rintro H' ⟨B', acc, n', o, ra⟩
    rw [List.take_length] at ra
    exact k D acc B' H' (nw.trans n') ⟨fresh_back nw.heap o.h0, o.b, o.h⟩ ra
end

/-! ### a tuple of empty tuples of the written part -/
structure UnbT (K : PySem.W.Frag) (mg : Str → Option Value) (U : Addr) (E : List Addr) : Prop where
  g : mg "UNBOUNDED" = some (.ref U)
  u : ∀ H, SqT K H U (E.map V.ref)
  e : ∀ a ∈ E, ∀ H, SqT K H a []
  k : PySem.W.keepIn K (.ref U) = true
section
variable {K : PySem.W.Frag}
theorem sqT_K {a : Addr} {od : Option Addr} {its : Array Value} {nn : Nat} {sl : Array (Option Value)} {xs : List V} (h : K.lookup a = some ⟨.type "tuple", od, .seq its nn, sl⟩) (hz : its.size ≤ sizeLine) (hv : Vals xs its.toList) : ∀ H, SqT K H a xs := fun H =>
  .inr ⟨_, its, nn, h, rfl, rfl, hz, hv⟩
theorem k_enum {X : Cx} {e : Expr} {ta : TA} {p pos tpos : Pos} {elts : List Expr} {kk : Nat} (h : X.K = K) (hg : Gl X "enumerate") (hm : X.mg "enumerate" = none) (ha : PA X [e] ta) (hs : starEach [e] X.env = [(false, eval e X.env)] := by rfl) :
    PI X (.Tuple elts kk tpos) (.Call (.Name "enumerate" p) [e] [] pos) (iEnum K ta) := h ▸ pi_enum hg hm ha hs
end
end U

/-! VP: programs as data, what is reckoned of them. -/
namespace U
open PySem L2
/-- number, amount -/
abbrev Cor := Int × Int
structure Bx where
  l : Cor
  r : Cor
  t : Cor
  b : Cor
inductive Sm where
  | fill (bx : Bx) (c : Int)
  | clip (bx : Bx) (ss : List Sm)
  | move (dx dy : Int) (ss : List Sm)
  | iff (ax : Bool) (p q : Cor) (a b : List Sm)
def eCor (c : Cor) : Dt := .tup [.int c.1, .int c.2]
def eBx (x : Bx) : Dt := .tup [eCor x.l, eCor x.r, eCor x.t, eCor x.b]
mutual
def eSt : Sm → Dt
  | .fill bx c => .tup [.str "fill", eBx bx, .int c]
  | .clip bx ss => .tup [.str "clip", eBx bx, .tup (ePg ss)]
  | .move dx dy ss => .tup [.str "move", .int dx, .int dy, .tup (ePg ss)]
  | .iff ax p q a b => .tup [.str "if", .str (axS ax), eCor p, eCor q, .tup (ePg a), .tup (ePg b)]
def ePg : List Sm → List Dt
  | [] => []
  | s :: ss => eSt s :: ePg ss
end
theorem ePg_map : ∀ ss : List Sm, ePg ss = ss.map eSt
  | [] => by rw [ePg]; rfl
  | s :: ss => by rw [ePg, ePg_map ss]; rfl
mutual
def szS : Sm → Nat
  | .fill _ _ => 1
  | .clip _ ss => 1 + szP ss
  | .move _ _ ss => 1 + szP ss
  | .iff _ _ _ a b => 1 + szP a + szP b
def szP : List Sm → Nat
  | [] => 0
  | s :: ss => szS s + szP ss
end
/-- of the frame -/
def CorOk (n : Int) (c : Cor) : Prop := 0 ≤ c.1 ∧ c.1 < n ∧ -9 ≤ c.2 ∧ c.2 ≤ 9
def BxOk (a b : Int) (x : Bx) : Prop := CorOk a x.l ∧ CorOk a x.r ∧ CorOk b x.t ∧ CorOk b x.b
def okS (a b : Int) (Q : List Sm → Prop) : Sm → Prop
  | .fill bx c => BxOk a b bx ∧ 0 ≤ c ∧ c ≤ 9
  | .clip bx ss => BxOk a b bx ∧ Q ss
  | .move dx dy ss => -9 ≤ dx ∧ dx ≤ 9 ∧ -9 ≤ dy ∧ dy ≤ 9 ∧ Q ss
  | .iff ax p q s t => CorOk (if ax = true then a else b) p ∧ CorOk (if ax = true then a else b) q ∧ Q s ∧ Q t
/-- programs of n levels -/
def okP (a b : Int) : Nat → List Sm → Prop
  | 0, _ => False
  | n + 1, ss => ∀ s ∈ ss, okS a b (okP a b n) s
theorem okS_mono {a b : Int} {Q Q' : List Sm → Prop} (h : ∀ ss, Q ss → Q' ss) : ∀ s, okS a b Q s → okS a b Q' s
  | .fill _ _, k => k
  | .clip _ _, k => ⟨k.1, h _ k.2⟩
  | .move _ _ _, k => ⟨k.1, k.2.1, k.2.2.1, k.2.2.2.1, h _ k.2.2.2.2⟩
  | .iff _ _ _ _ _, k => ⟨k.1, k.2.1, h _ k.2.2.1, h _ k.2.2.2⟩
theorem okP_up {a b : Int} : ∀ {n m : Nat} {ss : List Sm}, n ≤ m → okP a b n ss → okP a b m ss
  | 0, _, _, _, k => k.elim
  | n + 1, 0, _, h, _ => by omega
  | n + 1, m + 1, ss, h, k => fun s hs => okS_mono (fun ss q => okP_up (by omega) q) s (k s hs)

/-- as laws draw them -/
def CorL (n : Int) (c : Cor) : Prop := 0 ≤ c.1 ∧ c.1 < n ∧ -3 ≤ c.2 ∧ c.2 ≤ 3
def BxL (a b : Int) (x : Bx) : Prop := CorL a x.l ∧ CorL a x.r ∧ CorL b x.t ∧ CorL b x.b
def okSL (a b : Int) (Q : List Sm → Prop) : Sm → Prop
  | .fill bx c => BxL a b bx ∧ 0 ≤ c ∧ c ≤ 9
  | .clip bx ss => BxL a b bx ∧ Q ss
  | .move dx dy ss => -2 ≤ dx ∧ dx ≤ 2 ∧ -2 ≤ dy ∧ dy ≤ 2 ∧ Q ss
  | .iff ax p q s t => CorL (if ax = true then a else b) p ∧ CorL (if ax = true then a else b) q ∧ Q s ∧ Q t
def okPL (a b : Int) : Nat → List Sm → Prop
  | 0, _ => False
  | n + 1, ss => ∀ s ∈ ss, okSL a b (okPL a b n) s
theorem CorL.ok {n : Int} {c : Cor} (h : CorL n c) : CorOk n c := by
  obtain ⟨h1, h2, h3, h4⟩ := h
  exact ⟨h1, h2, by omega, by omega⟩
theorem BxL.ok {a b : Int} {x : Bx} (h : BxL a b x) : BxOk a b x := ⟨h.1.ok, h.2.1.ok, h.2.2.1.ok, h.2.2.2.ok⟩
theorem okSL.ok {a b : Int} {Q Q' : List Sm → Prop} (g : ∀ ss, Q ss → Q' ss) : ∀ s, okSL a b Q s → okS a b Q' s
  | .fill _ _, k => ⟨k.1.ok, k.2⟩
  | .clip _ _, k => ⟨k.1.ok, g _ k.2⟩
  | .move _ _ _, k => by
    obtain ⟨h1, h2, h3, h4, h5⟩ := k
    exact ⟨by omega, by omega, by omega, by omega, g _ h5⟩
  | .iff _ _ _ _ _, k => ⟨k.1.ok, k.2.1.ok, g _ k.2.2.1, g _ k.2.2.2⟩
theorem okPL.ok {a b : Int} : ∀ {n : Nat} {ss : List Sm}, okPL a b n ss → okP a b n ss
  | 0, _, k => k.elim
  | n + 1, ss, k => fun s hs => okSL.ok (fun ss q => okPL.ok q) s (k s hs)

/-! ### strokes -/
structure Bd where
  lows : List Cor
  highs : List Cor
  tests : List (Cor × Cor)
abbrev Ar := Bd × Bd
def mvC (c : Cor) (d : Int) : Cor := (c.1, c.2 + d)
def nar (b : Bd) (lo hi : Cor) (d : Int) : Bd := ⟨b.lows ++ [mvC lo d], b.highs ++ [mvC hi d], b.tests⟩
def boxd (ar : Ar) (x : Bx) (mv : Int × Int) : Ar := (nar ar.1 x.l x.r mv.1, nar ar.2 x.t x.b mv.2)
def tst (ar : Ar) (ax : Bool) (p q : Cor) : Ar :=
  if ax = true then (⟨ar.1.lows, ar.1.highs, ar.1.tests ++ [(p, q)]⟩, ar.2) else (ar.1, ⟨ar.2.lows, ar.2.highs, ar.2.tests ++ [(p, q)]⟩)
structure Sk where
  across : Bd
  down : Bd
  col : Int
mutual
def skS : Sm → Int × Int → Ar → List Sk
  | .fill bx c, mv, ar => [⟨(boxd ar bx mv).1, (boxd ar bx mv).2, c⟩]
  | .clip bx ss, mv, ar => skP ss mv (boxd ar bx mv)
  | .move dx dy ss, mv, ar => skP ss (mv.1 + dx, mv.2 + dy) ar
  | .iff ax p q a b, mv, ar => skP a mv (tst ar ax p q) ++ skP b mv (tst ar ax q (mvC p 1))
def skP : List Sm → Int × Int → Ar → List Sk
  | [], _, _ => []
  | s :: ss, mv, ar => skS s mv ar ++ skP ss mv ar
end
def unb : Bd := ⟨[], [], []⟩
mutual
theorem skS_len : ∀ (s : Sm) (mv : Int × Int) (ar : Ar), (skS s mv ar).length ≤ szS s
  | .fill bx c, mv, ar => by rw [skS, szS]; exact Nat.le_refl _
  | .clip bx ss, mv, ar => by rw [skS, szS]; have := skP_len ss mv (boxd ar bx mv); omega
  | .move dx dy ss, mv, ar => by rw [skS, szS]; have := skP_len ss (mv.1 + dx, mv.2 + dy) ar; omega
  | .iff ax p q a b, mv, ar => by rw [skS, szS, List.length_append]; have := skP_len a mv (tst ar ax p q); have := skP_len b mv (tst ar ax q (mvC p 1)); omega
theorem skP_len : ∀ (ss : List Sm) (mv : Int × Int) (ar : Ar), (skP ss mv ar).length ≤ szP ss
  | [], mv, ar => by rw [skP, szP]; exact Nat.le_refl _
  | s :: ss, mv, ar => by rw [skP, szP, List.length_append]; have := skS_len s mv ar; have := skP_len ss mv ar; omega
end
theorem skP_append : ∀ (ss ts : List Sm) (mv : Int × Int) (ar : Ar), skP (ss ++ ts) mv ar = skP ss mv ar ++ skP ts mv ar
  | [], ts, mv, ar => by rw [List.nil_append, skP, List.nil_append]
  | s :: ss, ts, mv, ar => by rw [List.cons_append, skP, skP, skP_append ss ts, List.append_assoc]
theorem skP_map : ∀ (ss : List Sm) (mv : Int × Int) (ar : Ar), skP ss mv ar = ss.flatMap fun s => skS s mv ar
  | [], mv, ar => by rw [skP]; rfl
  | s :: ss, mv, ar => by rw [skP, List.flatMap_cons, skP_map ss]

/-! ### what stands where -/
def cv (vs : List Int) (c : Cor) : Int := vs.getD c.1.toNat 0 + c.2
def hold (vs : List Int) (t : Cor × Cor) : Bool := decide (cv vs t.1 < cv vs t.2)
def maxL : List Int → Int
  | [] => 0
  | x :: xs => xs.foldl (fun a b => if b > a then b else a) x
def spanB (vs : List Int) (b : Bd) : Int × Int := if b.tests.all (hold vs) = true then (maxL (b.lows.map (cv vs)), minL (b.highs.map (cv vs))) else (0, 0)
def spansA (ax : Bool) (sks : List Sk) (vs : List Int) : List (Int × Int) := sks.map fun s => spanB vs (if ax = true then s.across else s.down)
def inSp (x : Int) (p : Int × Int) : Bool := decide (p.1 ≤ x) && decide (x < p.2)
def stackAt (sp : List (Int × Int)) (x : Int) : Int := ((sp.zipIdx.filter fun p => inSp x p.1).map fun p => (2 : Int) ^ p.2).sum
def edgesOf (sp : List (Int × Int)) : List Int := (sp.filter fun p => decide (p.1 < p.2)).flatMap fun p => [p.1, p.2]
def coverL (o : List Int) (sp : List (Int × Int)) : List (Int × Int) := o.map fun e => (e, stackAt sp e)
def topC (st : Int) (cols : List Int) : Int := if 0 < st then cols.getD (Builtin.Int.intBits st - 1) 0 else 0
end U

/-! VQ: bounds as data, empty ones in the written part. -/
namespace U
open PySem L2
open Evl (Ex fresh_back sz_of sz_lt sq_of st_of rLenS rListS)
/-- where UNBOUNDED stands, and its three -/
structure Ub where
  u : Addr
  e1 : Addr
  e2 : Addr
  e3 : Addr
def ubE (K : PySem.W.Frag) (a : Addr) (i : Nat) : Addr :=
  match K.lookup a with
  | some o => (match o.data with
    | .seq its _ => (match its[i]? with
      | some (.ref e) => e
      | _ => 0)
    | _ => 0)
  | none => 0
def ubOf (K : PySem.W.Frag) (mg : Str → Option Value) : Ub := ⟨cAt mg "UNBOUNDED", ubE K (cAt mg "UNBOUNDED") 0, ubE K (cAt mg "UNBOUNDED") 1, ubE K (cAt mg "UNBOUNDED") 2⟩
structure UbOk (K : PySem.W.Frag) (mg : Str → Option Value) (c : Ub) : Prop where
  g : mg "UNBOUNDED" = some (.ref c.u)
  u : ∀ H, SqT K H c.u [.ref c.e1, .ref c.e2, .ref c.e3]
  s1 : ∀ H, SqT K H c.e1 []
  s2 : ∀ H, SqT K H c.e2 []
  s3 : ∀ H, SqT K H c.e3 []
theorem ub_ok {K : PySem.W.Frag} {mg : Str → Option Value} {a e1 e2 e3 : Addr} {od od1 od2 od3 : Option Addr} {sl sl1 sl2 sl3 : Array (Option Value)} {n n1 n2 n3 : Nat} (hg : mg "UNBOUNDED" = some (.ref a)) (h : K.lookup a = some ⟨.type "tuple", od, .seq #[.ref e1, .ref e2, .ref e3] n, sl⟩)
    (h1 : K.lookup e1 = some ⟨.type "tuple", od1, .seq #[] n1, sl1⟩) (h2 : K.lookup e2 = some ⟨.type "tuple", od2, .seq #[] n2, sl2⟩) (h3 : K.lookup e3 = some ⟨.type "tuple", od3, .seq #[] n3, sl3⟩) : UbOk K mg (ubOf K mg) := by
  have ea : cAt mg "UNBOUNDED" = a := cAt_of hg
  have e : ubOf K mg = ⟨a, e1, e2, e3⟩ := by
    unfold ubOf
    rw [ea]
    unfold ubE
    rw [h]
    rfl
  rw [e]
  have z : ∀ m : Nat, m ≤ 3 → m ≤ sizeLine := fun m hm => sz_of (by omega)
  exact ⟨hg, sqT_K h (z 3 (by omega)) (.cons rfl (.cons rfl (.cons rfl .nil))), sqT_K h1 (z 0 (by omega)) .nil, sqT_K h2 (z 0 (by omega)) .nil, sqT_K h3 (z 0 (by omega)) .nil⟩
def eL {α : Type} (a : Addr) (enc : α → Dt) (l : List α) : Dt := match l with
  | [] => .con a
  | x :: xs => .tup ((x :: xs).map enc)
def eTs (t : Cor × Cor) : Dt := .tup [eCor t.1, eCor t.2]
def eBd (c : Ub) (b : Bd) : Dt := match b with
  | ⟨[], [], []⟩ => .con c.u
  | ⟨l, h, t⟩ => .tup [eL c.e1 eCor l, eL c.e2 eCor h, eL c.e3 eTs t]
theorem eBd_unb {c : Ub} : eBd c unb = .con c.u := rfl
theorem eBd_of {c : Ub} {b : Bd} (h : ¬ (b.lows = [] ∧ b.highs = [] ∧ b.tests = [])) : eBd c b = .tup [eL c.e1 eCor b.lows, eL c.e2 eCor b.highs, eL c.e3 eTs b.tests] := by
  obtain ⟨l, hh, t⟩ := b
  cases l with
  | cons x l => rfl
  | nil =>
    cases hh with
    | cons x l => rfl
    | nil =>
      cases t with
      | cons x l => rfl
      | nil => exact absurd ⟨rfl, rfl, rfl⟩ h
theorem eBd_cases (c : Ub) (b : Bd) : (eBd c b = .con c.u ∧ b = unb) ∨ eBd c b = .tup [eL c.e1 eCor b.lows, eL c.e2 eCor b.highs, eL c.e3 eTs b.tests] := by
  by_cases h : b.lows = [] ∧ b.highs = [] ∧ b.tests = []
  · obtain ⟨l, hh, t⟩ := b
    obtain ⟨h1, h2, h3⟩ := h
    dsimp only at h1 h2 h3
    subst h1 h2 h3
    exact .inl ⟨rfl, rfl⟩
  · exact .inr (eBd_of h)
theorem eL_cons {α : Type} {a : Addr} {enc : α → Dt} {l : List α} (h : l ≠ []) : eL a enc l = .tup (l.map enc) := by
  cases l with
  | nil => exact absurd rfl h
  | cons x xs => rfl
section
variable {K : PySem.W.Frag} {mg : Str → Option Value} {c : Ub} {σ : L2.St} {B B' H : Hp} {ta te : TE} {tl : TA} {D : Ends} {a : Addr} {α : Type} {enc : α → Dt} {l : List α} {es : List Dt} {i j k : Nat} {v : V} {b : Bd}
/-- lows, highs, tests = bounds -/
theorem s_asgBd (o : UbOk K mg c) (e : Ex B H) (h : EvR te σ B (eBd c b)) (go : ∀ v1 v2 v3 B1 H1, New B H B1 H1 → R B1 v1 (eL c.e1 eCor b.lows) → R B1 v2 (eL c.e2 eCor b.highs) → R B1 v3 (eL c.e3 eTs b.tests) → D.nx (((σ.set i (some v1)).set j (some v2)).set k (some v3)) H1) :
    tAsg te (gTup K 3 (gCons (gName i) (gCons (gName j) (gCons (gName k) gNil)))) D σ H := h H e _ fun v B1 H1 n rv => by
  rcases eBd_cases c b with ⟨hb, rfl⟩ | hb
  · rw [hb] at rv
    cases rv
    exact ⟨c.u, _, rfl, o.u _, rfl, _, _, rfl, _, _, rfl, _, _, rfl, rfl, go _ _ _ B1 H1 n (.con _) (.con _) (.con _)⟩
  · rw [hb] at rv
    obtain ⟨p, vs, rfl, hp, ra⟩ := rv.tup_inv
    rcases ra with _ | ⟨r1, _ | ⟨r2, _ | ⟨r3, _ | _⟩⟩⟩
    exact ⟨p, _, rfl, st_of (n.sub _ _ hp), rfl, _, _, rfl, _, _, rfl, _, _, rfl, rfl, go _ _ _ B1 H1 n r1 r2 r3⟩
/-- *e, .. -/
theorem ea_starE (s : ∀ H, SqT K H a []) (h : EvR te σ B (eL a enc l)) (hr : EvRA tl σ B es) : EvRA (StX.tStar K te tl) σ B (l.map enc ++ es) := by
  cases l with
  | cons x xs => exact ea_starT h hr
  | nil =>
    intro H1 e Q q
    refine h H1 e _ fun v B2 H2 n rv => ?_
    cases rv
    exact ⟨a, [], rfl, .inl (s _), (hr.mono n.ext) H2 n.sub _ fun vs B3 H3 n2 rvs => q _ B3 H3 (n.trans n2) rvs⟩
theorem goesN_eL (s : ∀ H, SqT K H a []) (h : EvR ta σ B (eL a enc l)) : GoesN (iSeq K ta) σ B (l.map enc) := by
  cases l with
  | cons x xs => exact goesN_seq h (Items.tup _)
  | nil =>
    intro H e Z z
    refine h H e _ fun v B1 H1 n rv => ?_
    cases rv
    exact ⟨a, rfl, .inr ⟨⟨[], s _⟩, z _ B1 H1 n (loopN_at (us := []) .nil (walk_tup.mono (fun H' _ => s H') fun _ _ _ _ _ _ y => y))⟩⟩
end
end U
namespace U
open PySem L2
open Evl (Ex fresh_back sz_of sz_lt sq_of st_of rLenS rListS)
section
variable {K : PySem.W.Frag} {σ : L2.St} {B B' H : Hp} {ta te : TE} {d : Dt} {n : String}
def rNotTy : R2 := fun x y H Q => ∃ m n, x = .ty m ∧ y = .ty n ∧ Q (.bl (!decide (m = n))) H
/-- type(x) is not T -/
theorem ev_notTy (h : EvR ta σ B d) (ne : d.isE = false) : EvR (tOp rNotTy (tThenX ta) (tC (.ty n))) σ B (.bl (!decide (d.kind = n))) := fun H1 e Q q =>
  h H1 e _ fun v B2 H2 nw rv => .inl ⟨_, rv.kind nw.sub ne, _, _, rfl, rfl, q _ B2 H2 nw (.bl _)⟩
end
section
variable {P : Program} {w : World} {K : PySem.W.Frag} {mg : Str → Option Value} {base : Heap}
theorem fn_vac {k : Nat} {f : Addr} {fd : FuncData} {ps : List Str} {g : List Dt → Dt → Prop} (h : ∀ ds d, ¬ g ds d) : FnG P w K mg base CX0 k f fd ps (spD g) :=
  ⟨fun vs H Q E z => by obtain ⟨_, ds, d, _, _, hd, _⟩ := z; exact (h ds d hd).elim, fun Γ _ _ below st H _ given us as _ _ Q E z => by obtain ⟨_, ds, d, _, _, hd, _⟩ := z; exact (h ds d hd).elim⟩
end
/-- how many rows the bounds have -/
structure ArS (m : Nat) (ar : Ar) : Prop where
  l1 : ar.1.lows.length ≤ m
  h1 : ar.1.highs.length ≤ m
  t1 : ar.1.tests.length ≤ m
  l2 : ar.2.lows.length ≤ m
  h2 : ar.2.highs.length ≤ m
  t2 : ar.2.tests.length ≤ m
theorem ArS.box {m : Nat} {ar : Ar} (h : ArS m ar) (x : Bx) (mv : Int × Int) : ArS (m + 1) (boxd ar x mv) := by
  obtain ⟨a, b, c, d, e, f⟩ := h
  constructor <;> simp [boxd, nar] <;> omega
theorem ArS.tst {m : Nat} {ar : Ar} (h : ArS m ar) (ax : Bool) (p q : Cor) : ArS (m + 1) (tst ar ax p q) := by
  obtain ⟨a, b, c, d, e, f⟩ := h
  cases ax <;> constructor <;> simp [U.tst] <;> omega
theorem ArS.up {m n : Nat} {ar : Ar} (h : ArS m ar) (k : m ≤ n) : ArS n ar := by
  obtain ⟨a, b, c, d, e, f⟩ := h
  constructor <;> omega
def eAr (c : Ub) (ar : Ar) : Dt := .tup [eBd c ar.1, eBd c ar.2]
def eSk (c : Ub) (s : Sk) : Dt := .tup [eBd c s.across, eBd c s.down, .int s.col]
def mvS : Sm → Int × Int → Int × Int
  | .move dx dy _, mv => (mv.1 + dx, mv.2 + dy)
  | _, mv => mv
def insS : Sm → Int × Int → Ar → List (List Sm × Ar)
  | .fill _ _, _, _ => []
  | .clip bx ss, mv, ar => [(ss, boxd ar bx mv)]
  | .move _ _ ss, _, ar => [(ss, ar)]
  | .iff ax p q a b, _, ar => [(a, tst ar ax p q), (b, tst ar ax q (mvC p 1))]
def eIn (c : Ub) (x : List Sm × Ar) : Dt := .tup [.tup (ePg x.1), eAr c x.2]
def isFill : Sm → Bool
  | .fill _ _ => true
  | _ => false
def wdS : Sm → Str
  | .fill _ _ => "fill"
  | .clip _ _ => "clip"
  | .move _ _ _ => "move"
  | .iff _ _ _ _ _ => "if"
def psS : Sm → List Dt
  | .fill bx c => [eBx bx, .int c]
  | .clip bx ss => [eBx bx, .tup (ePg ss)]
  | .move dx dy ss => [.int dx, .int dy, .tup (ePg ss)]
  | .iff ax p q a b => [.str (axS ax), eCor p, eCor q, .tup (ePg a), .tup (ePg b)]
theorem eSt_eq : ∀ s : Sm, eSt s = .tup (.str (wdS s) :: psS s)
  | .fill _ _ => by rw [eSt]; rfl
  | .clip _ _ => by rw [eSt]; rfl
  | .move _ _ _ => by rw [eSt]; rfl
  | .iff _ _ _ _ _ => by rw [eSt]; rfl
theorem psS_len (s : Sm) : (psS s).length ≤ 5 := by cases s <;> simp [psS]
theorem skS_ins (s : Sm) (mv : Int × Int) (ar : Ar) (h : isFill s = false) : skS s mv ar = (insS s mv ar).flatMap fun x => skP x.1 (mvS s mv) x.2 := by
  cases s with
  | fill _ _ => cases h
  | clip bx ss => rw [skS]; simp [insS, mvS]
  | move dx dy ss => rw [skS]; simp [insS, mvS]
  | iff ax p q a b => rw [skS]; simp [insS, mvS]
theorem szP_le : ∀ {ss : List Sm} {s : Sm}, s ∈ ss → szS s ≤ szP ss
  | t :: ss, s, h => by
    rw [szP]
    rcases List.mem_cons.mp h with rfl | h
    · omega
    · have := szP_le h; omega
theorem szS_pos (s : Sm) : 1 ≤ szS s := by cases s <;> rw [szS] <;> omega
theorem len_szP : ∀ ss : List Sm, ss.length ≤ szP ss
  | [] => by rw [szP]; exact Nat.le_refl _
  | s :: ss => by rw [szP, List.length_cons]; have := len_szP ss; have := szS_pos s; omega
end U
namespace U
open PySem L2
theorem wd_cf : ¬ (("clip" : Str) = "fill") := by decide +kernel
theorem wd_mf : ¬ (("move" : Str) = "fill") := by decide +kernel
theorem wd_mc : ¬ (("move" : Str) = "clip") := by decide +kernel
theorem wd_if : ¬ (("if" : Str) = "fill") := by decide +kernel
theorem wd_ic : ¬ (("if" : Str) = "clip") := by decide +kernel
theorem wd_im : ¬ (("if" : Str) = "move") := by decide +kernel
theorem wd_fm : ¬ (("fill" : Str) = "move") := by decide +kernel
theorem wd_cm : ¬ (("clip" : Str) = "move") := by decide +kernel
theorem wd_fc : ¬ (("fill" : Str) = "clip") := by decide +kernel
theorem wd_fi : ¬ (("fill" : Str) = "if") := by decide +kernel
theorem wd_ci : ¬ (("clip" : Str) = "if") := by decide +kernel
theorem wd_mi : ¬ (("move" : Str) = "if") := by decide +kernel
end U
namespace U
open PySem L2
theorem g_consN {σ : L2.St} {B H : Hp} {t : TGs} {vs : List V} {d : Dt} {ds : List Dt} {i : Nat} {k' : L2.St → Hp → Prop} (ra : RA B vs (d :: ds)) (h : ∀ v ws, R B v d → RA B ws ds → t ws (σ.set i (some v)) H k') : gCons (gName i) t vs σ H k' := by
  cases ra with | cons a b => exact ⟨_, _, rfl, h _ _ a b⟩
end U
namespace U
open PySem L2
open Evl (Ex fresh_back sz_of sz_lt sq_of st_of rLenS rListS)
theorem maxL_go : ∀ (xs : List Int) (a : Int), (xs.foldl (fun a b => if b > a then b else a) a ∈ a :: xs) ∧ ∀ y ∈ a :: xs, y ≤ xs.foldl (fun a b => if b > a then b else a) a
  | [], a => by simp
  | x :: xs, a => by
    rw [List.foldl_cons]
    obtain ⟨h1, h2⟩ := maxL_go xs (if x > a then x else a)
    have hm : a ≤ (if x > a then x else a) ∧ x ≤ (if x > a then x else a) := by split <;> constructor <;> omega
    constructor
    · rcases List.mem_cons.mp h1 with e | e
      · rw [e]
        split
        · exact List.mem_cons_of_mem _ List.mem_cons_self
        · exact List.mem_cons_self
      · exact List.mem_cons_of_mem _ (List.mem_cons_of_mem _ e)
    · intro y hy
      have h3 := h2 _ List.mem_cons_self
      rcases List.mem_cons.mp hy with e | hy
      · rw [e]; omega
      · rcases List.mem_cons.mp hy with e | hy
        · rw [e]; omega
        · exact h2 y (List.mem_cons_of_mem _ hy)
theorem maxL_mem {xs : List Int} (h : xs ≠ []) : maxL xs ∈ xs := by
  cases xs with
  | nil => exact absurd rfl h
  | cons x xs => exact (maxL_go xs x).1
theorem le_maxL {xs : List Int} {y : Int} (h : y ∈ xs) : y ≤ maxL xs := by
  cases xs with
  | nil => cases h
  | cons x xs => exact (maxL_go xs x).2 y h
theorem maxL_eq {xs : List Int} {m : Int} (h1 : m ∈ xs) (h2 : ∀ y ∈ xs, y ≤ m) : m = maxL xs :=
  Int.le_antisymm (le_maxL h1) (h2 _ (maxL_mem (fun e => by rw [e] at h1; cases h1)))
section
variable {K : PySem.W.Frag}
theorem k_max {X : Cx} (h : X.K = K) (hc : X.calm = true) : CallR X (.builtin "max") (L2.rMax K) := h ▸ cr_max hc
theorem rl_max {α : Type} {l : List α} {g : α → Int} (h : l ≠ []) : RL (L2.rMax K) [.lst (l.map fun a => Dt.int (g a))] (.int (maxL (l.map g))) := fun B H1 vs e ra Q q => by
  cases ra with | cons r1 r2 =>
  cases r2
  obtain ⟨a, vs, rfl, hp, ra⟩ := r1.lst_inv
  refine ⟨a, l.map g, rfl, sq_of (by rw [← ra.intsf_inv]; exact e _ _ hp), ?_, fun m h1 h2 => ?_⟩
  · rw [List.length_map]; exact List.length_pos_iff.mpr h
  · rw [maxL_eq h1 h2]; exact q _ B H1 (New.refl e) (.int _)
end
end U
namespace U
open PySem L2
open Evl (Ex fresh_back sz_of sz_lt sq_of st_of rLenS rListS)
/-- ascending lists of the same members are the same -/
theorem asc_unique : ∀ {a b : List Int}, a.Pairwise (· < ·) → b.Pairwise (· < ·) → (∀ x, x ∈ a ↔ x ∈ b) → a = b
  | [], [], _, _, _ => rfl
  | [], y :: b, _, _, h => absurd ((h y).mpr List.mem_cons_self) (by simp)
  | x :: a, [], _, _, h => absurd ((h x).mp List.mem_cons_self) (by simp)
  | x :: a, y :: b, ha, hb, h => by
    have ha' := List.pairwise_cons.mp ha
    have hb' := List.pairwise_cons.mp hb
    have hxy : x = y := by
      rcases List.mem_cons.mp ((h x).mp List.mem_cons_self) with e | e
      · exact e
      · rcases List.mem_cons.mp ((h y).mpr List.mem_cons_self) with f | f
        · exact f.symm
        · have := ha'.1 y f
          have := hb'.1 x e
          omega
    subst hxy
    congr 1
    refine asc_unique ha'.2 hb'.2 fun z => ⟨fun hz => ?_, fun hz => ?_⟩
    · rcases List.mem_cons.mp ((h z).mp (List.mem_cons_of_mem _ hz)) with e | e
      · have := ha'.1 z hz; omega
      · exact e
    · rcases List.mem_cons.mp ((h z).mpr (List.mem_cons_of_mem _ hz)) with e | e
      · have := hb'.1 z hz; omega
      · exact e
/-- the edges, ascending -/
def EdgesOk (sp : List (Int × Int)) (o : List Int) : Prop := (∀ x, x ∈ o ↔ x ∈ edgesOf sp) ∧ o.Pairwise (· < ·)
open Classical in
noncomputable def edgeL (sp : List (Int × Int)) : List Int := if h : ∃ o, EdgesOk sp o then Classical.choose h else []
theorem edgeL_eq {sp : List (Int × Int)} {o : List Int} (h : EdgesOk sp o) : o = edgeL sp := by
  have hx : ∃ o, EdgesOk sp o := ⟨o, h⟩
  unfold edgeL
  rw [dif_pos hx]
  have hs := Classical.choose_spec hx
  exact asc_unique h.2 hs.2 fun x => (h.1 x).trans (hs.1 x).symm
noncomputable def covL (sp : List (Int × Int)) : List (Int × Int) := coverL (edgeL sp) sp
/-- places where a line is not the one before it, the last one before the first -/
def prv (n k : Nat) : Nat := if k = 0 then n - 1 else k - 1
def unl (ls : List (List Int)) : List Nat := (List.range ls.length).filter fun k => !decide (ls.getD k [] = ls.getD (prv ls.length k) [])
def eT (l : List Int) : Dt := .tup (l.map .int)
theorem shaped_eT {ns : List Int} : SeqAt.shaped (eT ns).py = true := by
  unfold SeqAt.shaped eT
  rw [dep_py, Dt.dep, depAll_ints, Dt.py, PyData.canLay0, canLay_ints]
  rfl
theorem eqv_eT (a b : List Int) : PyData.eqv (eT a).py (eT b).py = decide (a = b) := by
  rw [← eqv_ints a b]
  unfold eT
  rw [Dt.py, Dt.py, PyData.eqv]
/-- what lines are held as -/
def LnEnc (enc : List Int → Dt) : Prop := (∀ a, SeqAt.shaped (enc a).py = true) ∧ ∀ a b, PyData.eqv (enc a).py (enc b).py = decide (a = b)
theorem ln_eI : LnEnc eI := ⟨fun _ => shaped_eI, eqv_eI⟩
theorem ln_eT : LnEnc eT := ⟨fun _ => shaped_eT, eqv_eT⟩
def colsOf (w : Nat) (g : List (List Int)) : List (List Int) := if g = [] then [] else (List.range w).map fun i => g.map fun r => r.getD i 0
section
variable {K : PySem.W.Frag} {σ : L2.St} {B B' H : Hp} {ta te : TE} {d : Dt}
theorem RA.of : ∀ {vs : List V} {ds : List Dt}, vs.length = ds.length → (∀ (i : Nat) v d, vs[i]? = some v → ds[i]? = some d → R B v d) → RA B vs ds
  | [], [], _, _ => .nil
  | [], _ :: _, h, _ => nomatch h
  | _ :: _, [], h, _ => nomatch h
  | v :: vs, d :: ds, h, k => .cons (k 0 v d rfl rfl) (RA.of (by simpa using h) fun i v d h1 h2 => k (i + 1) v d (by simpa using h1) (by simpa using h2))
theorem rows_inv : ∀ {g : List (List Int)} {us : List V}, RA B us (g.map eI) → ∃ rs : List Addr, us = rs.map V.ref ∧ rs.length = g.length ∧ ∀ (j : Nat) r, rs[j]? = some r → B r = some (.lst ((g.getD j []).map V.int))
  | [], _, .nil => ⟨[], rfl, rfl, fun j r h => by simp at h⟩
  | x :: g, _, .cons a b => by
    obtain ⟨rs, rfl, hl, hr⟩ := rows_inv b
    obtain ⟨p, rfl, hp⟩ := a.eI_inv
    refine ⟨p :: rs, rfl, by simp [hl], fun j r h => ?_⟩
    cases j with
    | zero =>
      simp at h
      subst h
      simpa using hp
    | succ j => simpa using hr j r (by simpa using h)
theorem new_trk {cols : Nat → List V} : ∀ (Ts : List Addr) (j : Nat) (B H : Hp), Ex B H → Ts.Nodup → (∀ T ∈ Ts, H T = none) → New B H (trk cols Ts j B) (trk cols Ts j H)
  | [], _, _, _, e, _, _ => New.refl e
  | T :: Ts, j, B, H, e, nd, hT => by
    rw [trk, trk]
    have nd' := List.nodup_cons.mp nd
    have n1 := New.one (o := .tup (cols j)) e (hT T List.mem_cons_self)
    exact n1.trans (new_trk Ts (j + 1) _ _ n1.sub nd'.2 fun T' h' => by
      have hne : T' ≠ T := fun z => nd'.1 (by rw [← z]; exact h')
      rw [upd_ne hne]
      exact hT T' (List.mem_cons_of_mem _ h'))
theorem ev_listZip {g : List (List Int)} {w : Nat} (h : EvR te σ B (.lst (g.map eI))) (hr : ∀ r ∈ g, r.length = w) (hg : g.length ≤ 24) (hw : w ≤ 1000) : EvR (tLz K te) σ B (.lst ((colsOf w g).map eT)) := fun H1 e Q q => h H1 e _ fun v B2 H2 n rv => by
  obtain ⟨p, us, rfl, hp, ra⟩ := rv.lst_inv
  obtain ⟨rs, rfl, hl, hrs⟩ := rows_inv ra
  have hlen : ∀ j, j < g.length → (g.getD j []).length = w := fun j hj => by
    rw [List.getD_eq_getElem?_getD, List.getElem?_eq_getElem hj]
    exact hr _ (List.getElem_mem hj)
  refine ⟨p, rs, fun j => (g.getD j []).map V.int, if g = [] then 0 else w, rfl, sq_of (n.sub _ _ hp), by omega, by split <;> omega, fun hz => ?_, fun j r hj => ?_, fun Ts S hT nd hTn hS hST => ?_⟩
  · rw [if_pos (List.length_eq_zero_iff.mp (by rw [← hl, hz]; rfl))]
  · have hjl : j < g.length := by
      have := (List.getElem?_eq_some_iff.mp hj).1
      omega
    refine ⟨sq_of (n.sub _ _ (hrs j r hj)), ?_⟩
    rw [List.length_map, hlen j hjl, if_neg (fun z => by rw [z] at hjl; simp at hjl)]
  · have n2 := new_trk (cols := colV rs.length fun j => (g.getD j []).map V.int) Ts 0 B2 H2 n.sub nd hTn
    have n3 := New.one (o := .lst (Ts.map V.ref)) n2.sub (p := S) (by rw [trk_old hST]; exact hS)
    refine q _ _ _ ((n.trans n2).trans n3) (.lst upd_same (RA.of ?_ fun i v d h1 h2 => ?_))
    · rw [List.length_map, List.length_map, hT]
      unfold colsOf
      split
      · rfl
      · rw [List.length_map, List.length_range]
    · rw [List.getElem?_map] at h1 h2
      cases hTi : Ts[i]? with
      | none => rw [hTi] at h1; cases h1
      | some T =>
      rw [hTi] at h1
      cases h1
      have hil := (List.getElem?_eq_some_iff.mp hTi).1
      have hne : ¬ g = [] := fun z => by rw [if_pos z] at hT; omega
      rw [if_neg hne] at hT
      unfold colsOf at h2
      rw [if_neg hne, List.getElem?_map, List.getElem?_range (by omega)] at h2
      cases h2
      have hne2 : T ≠ S := fun z => hST (z ▸ List.mem_of_getElem? hTi)
      refine R.tup (xs := (g.map fun r => r.getD i 0).map V.int) ?_ (RA.ints _)
      rw [upd_ne hne2, trk_at nd hTi]
      congr 2
      unfold colV
      rw [Nat.zero_add]
      refine List.ext_getElem? fun j => ?_
      by_cases hj : j < g.length
      · have e1 : (List.range rs.length)[j]? = some j := List.getElem?_range (by omega)
        have e2 : (g.getD j [])[i]? = some ((g.getD j []).getD i 0) := by
          have := hlen j hj
          rw [List.getD_eq_getElem?_getD (l := g.getD j []), List.getElem?_eq_getElem (by omega)]
          rfl
        rw [List.getElem?_map, e1, List.getElem?_map, List.getElem?_map, List.getElem?_eq_getElem hj]
        simp only [Option.map_some]
        rw [List.getElem?_map, e2]
        congr 1
        show V.int _ = V.int _
        congr 2
        rw [List.getD_eq_getElem?_getD, List.getElem?_eq_getElem hj]
        rfl
      · rw [List.getElem?_eq_none (by rw [List.length_map, List.length_range]; omega), List.getElem?_eq_none (by rw [List.length_map, List.length_map]; omega)]
end
end U
namespace U
open PySem L2
open Evl (Ex fresh_back sz_of sz_lt sq_of st_of rLenS rListS)
section
variable {K : PySem.W.Frag} {σ : L2.St} {B B' H : Hp} {ta tb : TE} {ds : List Dt}
theorem cutDrop (vs : List V) : cutV vs none (some (-1)) = vs.dropLast := by
  have e1 : HT.sIx vs.length 0 none = 0 := HT.sIx_none _ _
  have e2 : HT.sIx vs.length vs.length (some (-1)) = vs.length - 1 := by
    by_cases h : vs.length = 0
    · rw [h]; decide
    · unfold HT.sIx
      simp
      omega
  unfold cutV
  rw [e1]
  show ((vs.drop 0).take (HT.sIx vs.length vs.length (some (-1)) - 0)) = _
  rw [e2, List.drop_zero, Nat.sub_zero, List.dropLast_eq_take]
theorem ev_slD (h : EvR ta σ B (.lst ds)) (hi : EvR tb σ B (.int (-1))) : EvR (tSl (rSlL K) ta tNoPart (tPart tb)) σ B (.lst ds.dropLast) := fun H1 e Q q =>
  h H1 e _ fun v B1 H2 n rv => (hi.mono n.ext) H2 n.sub _ fun w B2 H3 n2 rw => by
    obtain ⟨p, vs, rfl, hp, ra⟩ := rv.lst_inv
    have hp2 := n2.ext _ _ hp
    refine ⟨-1, rw.int_inv, p, vs, rfl, sq_of (n2.sub _ _ hp2), fun p2 hp3 => ?_⟩
    rw [cutDrop vs]
    have rd : RA B1 vs.dropLast ds.dropLast := by
      rw [List.dropLast_eq_take, List.dropLast_eq_take, ra.len]
      exact ra.take _
    exact q _ (upd B2 p2 (.lst vs.dropLast)) _ ((n.trans n2).trans (New.one n2.sub hp3)) (.lst upd_same ((rd.mono n2.ext).mono (Evl.Ex.new (fresh_back n2.sub hp3))))
end
end U

/-! VR: stacks are small, strokes are of the setting. -/
namespace U
open PySem L2
theorem stack_go (P : Int × Int → Bool) : ∀ (sp : List (Int × Int)) (k : Nat), ∃ n : Nat, n < 2 ^ sp.length ∧ (((sp.zipIdx k).filter fun p => P p.1).map fun p => (2 : Int) ^ p.2).sum = (2 : Int) ^ k * (n : Int)
  | [], k => ⟨0, by simp, by simp⟩
  | x :: sp, k => by
    obtain ⟨n, h1, h2⟩ := stack_go P sp (k + 1)
    rw [List.zipIdx_cons, List.filter_cons]
    cases hp : P x with
    | true =>
      refine ⟨1 + 2 * n, by rw [List.length_cons, Nat.pow_succ]; omega, ?_⟩
      simp only [if_true, List.map_cons, List.sum_cons, h2]
      rw [Int.pow_succ]
      push_cast
      rw [Int.mul_add, Int.mul_assoc, Int.mul_one]
    | false =>
      refine ⟨2 * n, by rw [List.length_cons, Nat.pow_succ]; omega, ?_⟩
      simp only [Bool.false_eq_true, if_false, h2]
      rw [Int.pow_succ]
      push_cast
      rw [Int.mul_assoc]
theorem stack_nat (sp : List (Int × Int)) (x : Int) : ∃ n : Nat, n < 2 ^ sp.length ∧ stackAt sp x = (n : Int) := by
  obtain ⟨n, h1, h2⟩ := stack_go (inSp x) sp 0
  exact ⟨n, h1, by unfold stackAt; rw [h2]; simp⟩
theorem top_ok {n a b : Nat} (ha : a < 2 ^ n) (h : 0 < Builtin.bitAnd (a : Int) (b : Int)) : 1 ≤ Builtin.Int.intBits (Builtin.bitAnd (a : Int) (b : Int)) ∧ Builtin.Int.intBits (Builtin.bitAnd (a : Int) (b : Int)) ≤ n := by
  have e := PySem.W.os_band a b
  rw [e] at h ⊢
  constructor
  · unfold Builtin.Int.intBits
    have h0 : ¬ ((((a &&& b : Nat) : Int) == 0) = true) := by simp; omega
    rw [if_neg h0]
    omega
  · refine (PySem.intBits_le_iff).mpr ?_
    have : (a &&& b) ≤ a := Nat.and_le_left
    omega
/-- the colours of all cells between edges -/
def gridL (cs rs : List (Int × Int)) (cols : List Int) : List (List Int) := rs.map fun p => cs.map fun q => topC (Builtin.bitAnd q.2 p.2) cols
theorem cov_small {sp : List (Int × Int)} {p : Int × Int} (h : p ∈ covL sp) : ∃ k : Nat, p.2 = (k : Int) ∧ k < 2 ^ sp.length := by
  unfold covL coverL at h
  obtain ⟨x, _, rfl⟩ := List.mem_map.mp h
  obtain ⟨n, h1, h2⟩ := stack_nat sp x
  exact ⟨n, h2, h1⟩
def CIn (vs : List Int) (c : Cor) : Prop := 0 ≤ c.1 ∧ c.1 < vs.length
def BdIn (vs : List Int) (b : Bd) : Prop := (∀ c ∈ b.lows, CIn vs c) ∧ (∀ c ∈ b.highs, CIn vs c) ∧ (∀ t ∈ b.tests, CIn vs t.1 ∧ CIn vs t.2) ∧ b.lows ≠ [] ∧ b.highs ≠ [] ∧ b.lows.length ≤ 1000 ∧ b.highs.length ≤ 1000 ∧ b.tests.length ≤ 1000
structure BdP (vs : List Int) (b : Bd) : Prop where
  l : ∀ c ∈ b.lows, CIn vs c
  h : ∀ c ∈ b.highs, CIn vs c
  t : ∀ t ∈ b.tests, CIn vs t.1 ∧ CIn vs t.2
theorem BdP.unb {vs : List Int} : BdP vs unb := ⟨fun _ h => by simp [U.unb] at h, fun _ h => by simp [U.unb] at h, fun _ h => by simp [U.unb] at h⟩
theorem CorOk.inn {vs : List Int} {n : Int} {c : Cor} (h : CorOk n c) (hn : (vs.length : Int) = n) (d : Int) : CIn vs (mvC c d) := ⟨h.1, by have := h.2.1; show c.1 < _; omega⟩
theorem BdP.nar {vs : List Int} {b : Bd} {lo hi : Cor} {d n : Int} (h : BdP vs b) (h1 : CorOk n lo) (h2 : CorOk n hi) (hn : (vs.length : Int) = n) : BdP vs (nar b lo hi d) := by
  refine ⟨fun c hc => ?_, fun c hc => ?_, h.t⟩
  · rcases List.mem_append.mp hc with hc | hc
    · exact h.l c hc
    · rw [List.mem_singleton.mp hc]; exact h1.inn hn d
  · rcases List.mem_append.mp hc with hc | hc
    · exact h.h c hc
    · rw [List.mem_singleton.mp hc]; exact h2.inn hn d
structure ArP (p q : List Int) (ar : Ar) : Prop where
  a : BdP p ar.1
  d : BdP q ar.2
theorem ArP.box {p q : List Int} {a b : Int} {ar : Ar} {x : Bx} {mv : Int × Int} (h : ArP p q ar) (hx : BxOk a b x) (ha : (p.length : Int) = a) (hb : (q.length : Int) = b) : ArP p q (boxd ar x mv) :=
  ⟨h.a.nar hx.1 hx.2.1 ha, h.d.nar hx.2.2.1 hx.2.2.2 hb⟩
theorem ArP.tst {p q : List Int} {a b d : Int} {ar : Ar} {ax : Bool} {c e : Cor} (h : ArP p q ar) (h1 : CorOk (if ax = true then a else b) c) (h2 : CorOk (if ax = true then a else b) e) (ha : (p.length : Int) = a) (hb : (q.length : Int) = b) : ArP p q (tst ar ax c (mvC e d)) ∧ ArP p q (U.tst ar ax c e) := by
  have m0 : mvC e 0 = e := by unfold mvC; simp
  have m1 : mvC c 0 = c := by unfold mvC; simp
  cases ax with
  | true =>
    have h1 : CorOk a c := h1
    have h2 : CorOk a e := h2
    have g1 := h1.inn ha 0
    rw [m1] at g1
    have g2 := h2.inn ha 0
    rw [m0] at g2
    refine ⟨⟨⟨h.a.l, h.a.h, fun t ht => ?_⟩, h.d⟩, ⟨⟨h.a.l, h.a.h, fun t ht => ?_⟩, h.d⟩⟩
    · rcases List.mem_append.mp ht with ht | ht
      · exact h.a.t t ht
      · rw [List.mem_singleton.mp ht]; exact ⟨g1, h2.inn ha d⟩
    · rcases List.mem_append.mp ht with ht | ht
      · exact h.a.t t ht
      · rw [List.mem_singleton.mp ht]; exact ⟨g1, g2⟩
  | false =>
    have h1 : CorOk b c := h1
    have h2 : CorOk b e := h2
    have g1 := h1.inn hb 0
    rw [m1] at g1
    have g2 := h2.inn hb 0
    rw [m0] at g2
    refine ⟨⟨h.a, ⟨h.d.l, h.d.h, fun t ht => ?_⟩⟩, ⟨h.a, ⟨h.d.l, h.d.h, fun t ht => ?_⟩⟩⟩
    · rcases List.mem_append.mp ht with ht | ht
      · exact h.d.t t ht
      · rw [List.mem_singleton.mp ht]; exact ⟨g1, h2.inn hb d⟩
    · rcases List.mem_append.mp ht with ht | ht
      · exact h.d.t t ht
      · rw [List.mem_singleton.mp ht]; exact ⟨g1, g2⟩
theorem sk_in {a b : Int} {p q : List Int} (ha : (p.length : Int) = a) (hb : (q.length : Int) = b) : ∀ (n m : Nat) (ss : List Sm) (mv : Int × Int) (ar : Ar), okP a b n ss → ArP p q ar → ArS m ar → m + n ≤ 1000 → ∀ s ∈ skP ss mv ar, BdIn p s.across ∧ BdIn q s.down
  | 0, _, _, _, _, h, _, _, _ => h.elim
  | n + 1, m, ss, mv, ar, h, hp, hs, hm => fun s hsk => by
    rw [skP_map] at hsk
    obtain ⟨st, hst, hsk⟩ := List.mem_flatMap.mp hsk
    have hok := h st hst
    cases st with
    | fill bx c =>
      rw [skS] at hsk
      rw [List.mem_singleton.mp hsk]
      have hb' := hp.box (mv := mv) hok.1 ha hb
      have hs' := hs.box bx mv
      refine ⟨⟨hb'.a.l, hb'.a.h, hb'.a.t, by simp [boxd, nar], by simp [boxd, nar], ?_, ?_, ?_⟩, ⟨hb'.d.l, hb'.d.h, hb'.d.t, by simp [boxd, nar], by simp [boxd, nar], ?_, ?_, ?_⟩⟩
      · have := hs'.l1; show (boxd ar bx mv).1.lows.length ≤ 1000; omega
      · have := hs'.h1; show (boxd ar bx mv).1.highs.length ≤ 1000; omega
      · have := hs'.t1; show (boxd ar bx mv).1.tests.length ≤ 1000; omega
      · have := hs'.l2; show (boxd ar bx mv).2.lows.length ≤ 1000; omega
      · have := hs'.h2; show (boxd ar bx mv).2.highs.length ≤ 1000; omega
      · have := hs'.t2; show (boxd ar bx mv).2.tests.length ≤ 1000; omega
    | clip bx ss' =>
      rw [skS] at hsk
      exact sk_in ha hb n (m + 1) ss' mv _ hok.2 (hp.box hok.1 ha hb) (hs.box bx mv) (by omega) s hsk
    | move dx dy ss' =>
      rw [skS] at hsk
      exact sk_in ha hb n m ss' _ _ hok.2.2.2.2 hp hs (by omega) s hsk
    | iff ax c e x y =>
      rw [skS] at hsk
      obtain ⟨k1, k2, k3, k4⟩ := hok
      rcases List.mem_append.mp hsk with hsk | hsk
      · exact sk_in ha hb n (m + 1) x mv _ k3 (hp.tst (d := 0) k1 k2 ha hb).2 (hs.tst ax c e) (by omega) s hsk
      · exact sk_in ha hb n (m + 1) y mv _ k4 (hp.tst (d := 1) k2 k1 ha hb).1 (hs.tst ax e (mvC c 1)) (by omega) s hsk
theorem edges_len (sp : List (Int × Int)) : (edgesOf sp).length ≤ 2 * sp.length := by
  unfold edgesOf
  have h := List.length_filter_le (fun p : Int × Int => decide (p.1 < p.2)) sp
  have : ∀ l : List (Int × Int), (l.flatMap fun p => [p.1, p.2]).length = 2 * l.length := fun l => by
    induction l with
    | nil => rfl
    | cons x xs ih => rw [List.flatMap_cons, List.length_append, ih, List.length_cons]; simp; omega
  rw [this]
  omega
open Classical in
theorem edgeL_len (sp : List (Int × Int)) : (edgeL sp).length ≤ 2 * sp.length := by
  unfold edgeL
  by_cases h : ∃ o, EdgesOk sp o
  · rw [dif_pos h]
    have hs := Classical.choose_spec h
    have hnd : (Classical.choose h).Nodup := hs.2.imp (fun h => Int.ne_of_lt h)
    exact Nat.le_trans (nodup_len hnd (fun x hx => (hs.1 x).mp hx)) (edges_len sp)
  · rw [dif_neg h]
    exact Nat.zero_le _
end U

/-! VS: expressions that change some lists (ch) and leave them in a state (S i): the deck, the purse. -/
namespace U
open PySem L2
open Evl (Ex fresh_back sz_of sz_lt sq_of st_of rLenS rListS)
/-- ch: what may change; S i: how it stands -/
structure Sta (ι : Type) where
  ch : Addr → Prop
  S : ι → Hp → Prop
  up : ∀ i H H', S i H → Ex H H' → S i H'
  at_ : ∀ i H a, S i H → ch a → H a ≠ none
  put : ∀ i H a u, S i H → ¬ ch a → S i (upd H a u)
structure NewG {ι : Type} (Z : Sta ι) (B H B' H' : Hp) : Prop where
  ext : Ex B B'
  sub : Ex B' H'
  heap : ∀ a u, ¬ Z.ch a → H a = some u → H' a = some u
  fresh : ∀ a, B a = none → H a ≠ none → B' a = none
def OutG {ι : Type} (Z : Sta ι) (B : Hp) : Prop := ∀ a, Z.ch a → B a = none
section
variable {ι : Type} {Z : Sta ι} {B B1 B2 H H1 H2 : Hp} {i j : ι}
theorem New.g (n : New B H B1 H1) : NewG Z B H B1 H1 := ⟨n.ext, n.sub, fun a u _ h => n.heap a u h, n.fresh⟩
theorem NewG.refl (e : Ex B H) : NewG Z B H B H := (New.refl e).g
theorem NewG.trans (d : Z.S i H1) (a : NewG Z B H B1 H1) (b : NewG Z B1 H1 B2 H2) : NewG Z B H B2 H2 :=
  ⟨a.ext.trans b.ext, b.sub, fun x u hx h => b.heap x u hx (a.heap x u hx h), fun x h1 h2 => b.fresh x (a.fresh x h1 h2) fun h3 => by
    by_cases hc : Z.ch x
    · exact Z.at_ i H1 x d hc h3
    · cases z : H x with
      | none => exact h2 z
      | some o => rw [a.heap x o hc z] at h3; cases h3⟩
theorem NewG.out (d : Z.S i H) (o : OutG Z B) (n : NewG Z B H B1 H1) : OutG Z B1 := fun a ha => n.fresh a (o a ha) (Z.at_ i H a d ha)
/-- what may change them -/
def EvG (Z : Sta ι) (te : TE) (σ : L2.St) (B : Hp) (i : ι) (P : Dt → ι → Prop) : Prop := ∀ B1 H1, Ex B B1 → Ex B1 H1 → OutG Z B1 → Z.S i H1 → ∀ Q : VK, (∀ v B2 H2 d j, P d j → NewG Z B1 H1 B2 H2 → Z.S j H2 → R B2 v d → Q v H2) → te σ H1 Q
def EvGA (Z : Sta ι) (ta : TA) (σ : L2.St) (B : Hp) (i : ι) (P : List Dt → ι → Prop) : Prop := ∀ B1 H1, Ex B B1 → Ex B1 H1 → OutG Z B1 → Z.S i H1 → ∀ Q : List V → Hp → Prop, (∀ vs B2 H2 ds j, P ds j → NewG Z B1 H1 B2 H2 → Z.S j H2 → RA B2 vs ds → Q vs H2) → ta σ H1 Q
end
section
variable {ι : Type} {Z : Sta ι} {K : PySem.W.Frag} {σ : L2.St} {B H : Hp} {ta tb te : TE} {tl tr : TA} {d x y : Dt} {ds : List Dt} {P P1 P2 : Dt → ι → Prop} {PL : List Dt → ι → Prop} {r : R2} {D : Ends} {n q : Nat} {i : ι}
theorem EvG.imp (h : EvG Z te σ B i P) (g : ∀ d j, P d j → P1 d j) : EvG Z te σ B i P1 := fun B1 H1 e1 e2 o k Q c => h B1 H1 e1 e2 o k Q fun v B2 H2 d j hd => c v B2 H2 d j (g d j hd)
theorem EvG.up {B' : Hp} (e : Ex B B') (h : EvG Z te σ B i P) : EvG Z te σ B' i P := fun B1 H1 e1 => h B1 H1 (e.trans e1)
theorem eg_R (h : EvR te σ B d) (hp : P d i) : EvG Z te σ B i P := fun B1 H1 e1 e2 o k Q c => (h.mono e1) H1 e2 Q fun v B2 H2 n rv => c v B2 H2 d i hp n.g (Z.up i H1 H2 k n.heap) rv
theorem ega_nil : EvGA Z tNil σ B i (fun ds j => ds = [] ∧ j = i) := fun B1 H1 e1 e2 o k Q c => c [] B1 H1 [] i ⟨rfl, rfl⟩ (NewG.refl e2) k .nil
theorem ega_cons {PR : Dt → ι → List Dt → ι → Prop} (h : EvG Z te σ B i P) (hr : ∀ d j, P d j → EvGA Z tr σ B j (PR d j)) : EvGA Z (tCons te tr) σ B i (fun ds j => ∃ d j1 es, ds = d :: es ∧ P d j1 ∧ PR d j1 es j) := fun B1 H1 e1 e2 o k Q c =>
  h B1 H1 e1 e2 o k _ fun v B2 H2 x j px n1 k1 rx => (hr x j px) B2 H2 (e1.trans n1.ext) n1.sub (n1.out k o) k1 _ fun vs B3 H3 es j2 pe n2 k2 re =>
    c (v :: vs) B3 H3 (x :: es) j2 ⟨x, j, es, rfl, px, pe⟩ (NewG.trans k1 n1 n2) k2 (.cons (rx.mono n2.ext) re)
theorem EvGA.imp {PL' : List Dt → ι → Prop} (h : EvGA Z tl σ B i PL) (g : ∀ d j, PL d j → PL' d j) : EvGA Z tl σ B i PL' := fun B1 H1 e1 e2 o k Q c => h B1 H1 e1 e2 o k Q fun v B2 H2 d j hd => c v B2 H2 d j (g d j hd)
theorem eg_tup (h : EvGA Z tl σ B i PL) (hl : ∀ ds j, PL ds j → ds.length ≤ 100000 ∧ P (.tup ds) j) : EvG Z (tTup tl) σ B i P := fun B1 H1 e1 e2 o k Q c =>
  h B1 H1 e1 e2 o k _ fun vs B2 H2 ds j pd n1 k1 rv => ⟨by rw [rv.len]; exact sz_of (hl ds j pd).1, fun a ha => by
    have N : New B2 H2 (upd B2 a (.tup vs)) (upd H2 a (.tup vs)) := New.one n1.sub ha
    exact c _ (upd B2 a (.tup vs)) _ (.tup ds) j (hl ds j pd).2 (NewG.trans k1 n1 N.g) (Z.up j H2 _ k1 N.heap) (.tup upd_same (rv.mono N.ext))⟩
theorem eg_lst (h : EvGA Z tl σ B i PL) (hl : ∀ ds j, PL ds j → ds.length ≤ 100000 ∧ P (.lst ds) j) : EvG Z (tLst tl) σ B i P := fun B1 H1 e1 e2 o k Q c =>
  h B1 H1 e1 e2 o k _ fun vs B2 H2 ds j pd n1 k1 rv => ⟨by rw [rv.len]; exact sz_of (hl ds j pd).1, fun a ha => by
    have N : New B2 H2 (upd B2 a (.lst vs)) (upd H2 a (.lst vs)) := New.one n1.sub ha
    exact c _ (upd B2 a (.lst vs)) _ (.lst ds) j (hl ds j pd).2 (NewG.trans k1 n1 N.g) (Z.up j H2 _ k1 N.heap) (.lst upd_same (rv.mono N.ext))⟩
theorem eg_op (ha : EvG Z ta σ B i P1) (hb : ∀ d j, P1 d j → EvG Z tb σ B j (fun e j' => ∃ z, P z j' ∧ RV r d e z)) : EvG Z (tOp r ta tb) σ B i P := fun B1 H1 e1 e2 o k Q c =>
  ha B1 H1 e1 e2 o k _ fun v B2 H2 x j px n1 k1 rx => hb x j px B2 H2 (e1.trans n1.ext) n1.sub (n1.out k o) k1 _ fun w B3 H3 y j2 ⟨z, pz, rz⟩ n2 k2 ry =>
    rz B3 H3 v w n2.sub (rx.mono n2.ext) ry Q fun u B4 H4 n3 ru => c u B4 H4 z j2 pz (NewG.trans k2 (NewG.trans k1 n1 n2) n3.g) (Z.up j2 H3 H4 k2 n3.heap) ru
theorem eg_cb {f : List V → Hp → VK → Prop} (h : EvGA Z tl σ B i PL) (hr : ∀ ds j, PL ds j → ∃ z, P z j ∧ RL f ds z) : EvG Z (tCB f tl) σ B i P := fun B1 H1 e1 e2 o k Q c =>
  h B1 H1 e1 e2 o k _ fun vs B2 H2 ds j pd n1 k1 rv => by
    obtain ⟨z, pz, rz⟩ := hr ds j pd
    exact rz B2 H2 vs n1.sub rv Q fun u B3 H3 n2 ru => c u B3 H3 z j pz (NewG.trans k1 n1 n2.g) (Z.up j H2 H3 k1 n2.heap) ru
/-- [te for q in range(m)], I: what holds between the turns -/
theorem eg_lcR {m : Nat} {vs : List Nat} (I : Nat → List Dt → ι → Prop) (h : EvRA tl σ B [.int (m : Nat)]) (hm : m ≤ 1000) (hw : ∀ x, wipe ((wipe σ vs).set q (some x)) vs = wipe σ vs) (h0 : I 0 [] i)
    (hs : ∀ (a : Nat) ds j, a < m → I a ds j → EvG Z te ((wipe σ vs).set q (some (.int (a : Nat)))) B j (fun d j' => I (a + 1) (ds ++ [d]) j')) (hl : ∀ a ds j, I a ds j → ds.length = a) (hP : ∀ ds j, I m ds j → P (.lst ds) j) :
    EvG Z (tLc (iRng1 tl) (gName q) tYes te vs) σ B i P := fun B1 H1 e1 e2 o k Q c => (h.mono e1) H1 e2 _ fun us B2 H2 nw ra => by
  cases ra with | cons r1 ra =>
  cases r1; cases ra
  refine ⟨(m : Int), rfl, by omega, by omega, fun D hD => ?_⟩
  have k2 : Z.S i H2 := Z.up i H1 H2 k nw.heap
  have o2 : OutG Z B2 := (nw.g (Z := Z)).out k o
  have nD : ¬ Z.ch D := fun z => Z.at_ i H2 D k2 z hD
  rw [Int.toNat_natCast]
  refine lc_range (lo := 0) (n := m) (fun a H' => ∃ B' acc ds j, NewG Z B2 H2 B' H' ∧ H' D = some (.lst acc) ∧ B' D = none ∧ Z.S j H' ∧ RA B' acc ds ∧ I a ds j) ?_ (fun a H' ha z => ⟨hw _, ?_⟩) (fun H' z => ?_)
  · refine ⟨B2, [], [], i, ⟨Evl.Ex.refl _, Evl.Ex.mut nw.sub (fresh_back nw.sub hD), fun x u hx hu => ?_, fun _ h _ => h⟩, upd_same, fresh_back nw.sub hD, Z.up i H2 _ k2 (Evl.Ex.new hD), .nil, h0⟩
    rw [upd_ne (fun z => by subst z; rw [hD] at hu; cases hu)]
    exact hu
  · obtain ⟨B', acc, ds, j, n', hDa, bD, kj, rd, hI⟩ := z
    have e0 : (0 : Int) + (a : Int) = (a : Int) := Int.zero_add _
    rw [e0]
    show te _ H' _
    refine (hs a ds j ha hI) B' H' (e1.trans (nw.ext.trans n'.ext)) n'.sub (n'.out k2 o2) kj _ fun w B3 H3 d j' hI' n3 k3 rw' => ?_
    have hl' := hl a ds j hI
    have hD3 : H3 D = some (.lst acc) := n3.heap D _ nD hDa
    have b3 : B3 D = none := n3.fresh D bD (by rw [hDa]; exact fun z => nomatch z)
    refine ⟨acc, hD3, sz_lt (by rw [rd.len, hl']; omega), B3, acc ++ [w], ds ++ [d], j', ⟨n'.ext.trans n3.ext, Evl.Ex.mut n3.sub b3, fun x u hx hu => ?_, ?_⟩, upd_same, b3, ?_, (rd.mono n3.ext).append (RA.one rw'), hI'⟩
    · rw [upd_ne (fun z => by subst z; rw [hD] at hu; cases hu)]
      exact n3.heap x u hx (n'.heap x u hx hu)
    · exact (NewG.trans kj n' n3).fresh
    · exact Z.put j' H3 D _ k3 nD
  · obtain ⟨B', acc, ds, j, n', hDa, bD, kj, rd, hI⟩ := z
    have n4 : NewG Z B2 H2 (upd B' D (.lst acc)) H' := by
      refine ⟨n'.ext.trans (Evl.Ex.new bD), fun x u hx => ?_, n'.heap, fun x h1 h2 => ?_⟩
      · by_cases hxD : x = D
        · subst hxD; rw [upd_same] at hx; cases hx; exact hDa
        · rw [upd_ne hxD] at hx; exact n'.sub x u hx
      · rw [upd_ne (fun z => by subst z; exact h2 hD)]
        exact n'.fresh x h1 h2
    exact c _ _ H' (.lst ds) j (hP ds j hI) (NewG.trans k2 nw.g n4) kj (.lst upd_same (rd.mono (Evl.Ex.new bD)))
theorem s_asgG (e : Ex B H) (o : OutG Z B) (k : Z.S i H) (h : EvG Z te σ B i P) (c : ∀ v B1 H1 d j, P d j → NewG Z B H B1 H1 → OutG Z B1 → Z.S j H1 → R B1 v d → D.nx (σ.set q (some v)) H1) : tAsg te (gName q) D σ H :=
  h B H (Ex.refl B) e o k _ fun v B2 H2 d j pd n1 k1 rv => c v B2 H2 d j pd n1 (n1.out k o) k1 rv
theorem s_retG (e : Ex B H) (o : OutG Z B) (k : Z.S i H) (h : EvG Z te σ B i P) (c : ∀ v B1 H1 d j, P d j → NewG Z B H B1 H1 → OutG Z B1 → Z.S j H1 → R B1 v d → D.rt v H1) : tRet te D σ H :=
  h B H (Ex.refl B) e o k _ fun v B2 H2 d j pd n1 k1 rv => c v B2 H2 d j pd n1 (n1.out k o) k1 rv
end

/-! ### the deck among them -/
theorem Dk.put {p q a : Addr} {H : Hp} {u : HO} (h : Dk p q H) (h1 : a ≠ p) (h2 : a ≠ q) : Dk p q (upd H a u) := by
  obtain ⟨ns, i, s, c, d⟩ := h
  exact ⟨ns, i, s, c, d.ne, by rw [upd_ne (Ne.symm h1)]; exact d.hp, by rw [upd_ne (Ne.symm h2)]; exact d.hq, d.nn, d.len, d.i0, d.s0, d.s1⟩
def Zd (p q : Addr) : Sta Unit where
  ch a := a = p ∨ a = q
  S _ H := Dk p q H
  up _ _ _ h e := h.ex e
  at_ _ H a h hc := by rcases hc with rfl | rfl; exact h.np; exact h.nq
  put _ H a u h hc := h.put (fun z => hc (.inl z)) (fun z => hc (.inr z))
/-- the purse: how many statements may still come -/
def Zu (p q r : Addr) : Sta Int where
  ch a := a = p ∨ a = q ∨ a = r
  S k H := Dk p q H ∧ r ≠ p ∧ r ≠ q ∧ H r = some (.lst [.int k])
  up _ _ _ h e := ⟨h.1.ex e, h.2.1, h.2.2.1, e _ _ h.2.2.2⟩
  at_ _ H a h hc := by rcases hc with rfl | rfl | rfl; exact h.1.np; exact h.1.nq; rw [h.2.2.2]; exact fun z => nomatch z
  put _ H a u h hc := ⟨h.1.put (fun z => hc (.inl z)) (fun z => hc (.inr (.inl z))), h.2.1, h.2.2.1, by rw [upd_ne (fun z => hc (.inr (.inr z.symm)))]; exact h.2.2.2⟩
structure DkIn {ι : Type} (p q : Addr) (Z : Sta ι) : Prop where
  hp : Z.ch p
  hq : Z.ch q
  dk : ∀ i H, Z.S i H → Dk p q H
  st : ∀ i H H', Z.S i H → But p q H H' → Dk p q H' → Z.S i H'
theorem dkIn_d {p q : Addr} : DkIn p q (Zd p q) := ⟨.inl rfl, .inr rfl, fun _ _ h => h, fun _ _ _ _ _ h => h⟩
theorem dkIn_u {p q r : Addr} : DkIn p q (Zu p q r) := ⟨.inl rfl, .inr (.inl rfl), fun _ _ h => h.1, fun _ _ _ h b d => ⟨d, h.2.1, h.2.2.1, b r _ h.2.1 h.2.2.1 h.2.2.2⟩⟩
/-- a promise: it draws from the deck -/
def spK (pre : List Dt → Prop) (g : List Dt → Dt → Prop) : Sp := fun vs H Q _ => ∃ (p q : Addr) (ws : List V) (B : Hp) (as : List Dt), vs = .ref p :: ws ∧ Ex B H ∧ Out p q B ∧ Dk p q H ∧ RA B ws as ∧ pre as ∧ ∀ v B2 H2 d, g as d → NewD p q B H B2 H2 → Dk p q H2 → R B2 v d → Q v H2
section
variable {ι : Type} {Z : Sta ι} {p q : Addr} {σ : L2.St} {B H : Hp} {te : TE} {tl : TA} {i : ι} {n : Nat}
theorem NewD.g {B1 H1 : Hp} (k : DkIn p q Z) (m : NewD p q B H B1 H1) : NewG Z B H B1 H1 := ⟨m.ext, m.sub, fun a u hc h => m.heap a u (fun z => hc (z ▸ k.hp)) (fun z => hc (z ▸ k.hq)) h, m.fresh⟩
theorem eg_take (kd : DkIn p q Z) {E : XK} {m : Int} (hv : σ[n]? = some (some (.ref p))) (h : EvR te σ B (.int m)) (h0 : 0 < m) (h1 : m < 2 ^ 900) : EvG Z (tCall spTake [] E (tCons (tVar n) (tCons te tNil))) σ B i (fun d j => (∃ r, d = .int r ∧ 0 ≤ r ∧ r < m) ∧ j = i) := fun B1 H1 e1 e2 o k Q c =>
  ⟨_, hv, (h.mono e1) H1 e2 _ fun w B2 H2 n2 rw => by
    cases rw
    have k2 := Z.up i H1 H2 k n2.heap
    refine ⟨p, q, m, rfl, h0, h1, kd.dk i H2 k2, fun r H3 r0 r1 b dk => ?_⟩
    have op : B2 p = none := n2.fresh p (o p kd.hp) (Z.at_ i H1 p k kd.hp)
    have oq : B2 q = none := n2.fresh q (o q kd.hq) (Z.at_ i H1 q k kd.hq)
    exact c (.int r) B2 H3 (.int r) i ⟨⟨r, rfl, r0, r1⟩, rfl⟩ (NewD.g kd ⟨n2.ext, b.ex n2.sub op oq, (But.of n2.heap).trans b, n2.fresh⟩) (kd.st i H2 H3 k2 b dk) (.int r)⟩
theorem eg_callK (kd : DkIn p q Z) {E : XK} {as : List Dt} {pre : List Dt → Prop} {g : List Dt → Dt → Prop} (hv : σ[n]? = some (some (.ref p))) (h : EvRA tl σ B as) (hp : pre as) : EvG Z (tCall (spK pre g) [] E (tCons (tVar n) tl)) σ B i (fun d j => g as d ∧ j = i) := fun B1 H1 e1 e2 o k Q c =>
  ⟨_, hv, (h.mono e1) H1 e2 _ fun ws B2 H2 n2 rw => by
    have k2 := Z.up i H1 H2 k n2.heap
    have op : B2 p = none := n2.fresh p (o p kd.hp) (Z.at_ i H1 p k kd.hp)
    have oq : B2 q = none := n2.fresh q (o q kd.hq) (Z.at_ i H1 q k kd.hq)
    refine ⟨p, q, ws, B2, as, by rw [List.append_nil], n2.sub, ⟨op, oq⟩, kd.dk i H2 k2, rw, hp, fun v B3 H3 d hg n3 dk r3 => ?_⟩
    exact c v B3 H3 d i ⟨hg, rfl⟩ (NewG.trans k2 n2.g (n3.g kd)) (kd.st i H2 H3 k2 n3.heap dk) r3⟩
end
section
variable {P : Program} {w : World} {K : PySem.W.Frag} {mg : Str → Option Value} {base : Heap}
open PySem.Spec PyProof.Rows in
theorem fn_K {x qual : Str} {st : Stmt} {f : Addr} {fd : FuncData} {N ps : List Str} {k : Nat} {pre : List Dt → Prop} {g : List Dt → Dt → Prop} (F : Fun K x qual st f fd) (S : FnScope N ps (defScope st)) (len : ∀ ds, pre ds → ds.length + 1 = ps.length)
    (body : ∀ (cdv : Value) (Γ : Around) (below : List Env) (s : Shared) (p q : Addr) (B H : Hp) (ws : List V) (as : List Dt) (Q : VK) (E : XK), Γ.guards = some [] → Room k (Γ.deeper (envOfC qual (defScope st) s.heap.objs.size f cdv)) →
      Ex B H → OutG (Zd p q) B → (Zd p q).S () H → RA B ws as → pre as → (∀ v B2 H2 d, g as d → NewG (Zd p q) B H B2 H2 → (Zd p q).S () H2 → R B2 v d → Q v H2) →
      ∃ t, PSs (cxOf CX0 P w K mg base N qual (defScope st) f cdv Γ below s H E).nox (defBody st) t ∧ t { nx := fun _ H' => Q .non H', rt := Q } (start N (.ref p :: ws)) H) : FnG P w K mg base CX0 (k + 1) f fd ps (spK pre g) := by
  refine fn_S F S (fun vs H Q E h => ?_) (fun cdv Γ below s H vs Q E hg hr h => ?_)
  · obtain ⟨p, q, ws, B, as, rfl, _, _, _, ra, hp, _⟩ := h
    rw [List.length_cons, ra.len]
    exact len as hp
  · obtain ⟨p, q, ws, B, as, rfl, e, o, dk, ra, hp, ret⟩ := h
    exact body cdv Γ below s p q B H ws as Q E hg hr e (fun a ha => by rcases ha with rfl | rfl; exact o.p; exact o.q) dk ra hp fun v B2 H2 d hd n2 k2 r2 => ret v B2 H2 d hd ⟨n2.ext, n2.sub, fun a u h1 h2 h => n2.heap a u (fun z => z.elim h1 h2) h, n2.fresh⟩ k2 r2
end
end U
namespace U
open PySem L2
open Evl (Ex fresh_back sz_of sz_lt sq_of st_of rLenS rListS)
section
variable {ι : Type} {Z : Sta ι} {K : PySem.W.Frag} {σ : L2.St} {B H : Hp} {te : TE} {wi : TI} {g : TG} {P : Dt → ι → Prop} {i : ι}
/-- [te for .. in data], te may change the state -/
theorem eg_lcN {α : Type} {l : List α} {enc : α → Dt} {vs : List Nat} (I : Nat → List Dt → ι → Prop) (h : GoesN wi σ B (l.map enc)) (hl1 : l.length ≤ 1000) (h0 : I 0 [] i)
    (hs : ∀ (a : Nat) x ds j v B1 H1 (k' : L2.St → Hp → Prop), l[a]? = some x → I a ds j → Ex B B1 → Ex B1 H1 → R B1 v (enc x) → (∀ σ2, wipe σ2 vs = wipe σ vs → EvG Z te σ2 B1 j (fun d j' => I (a + 1) (ds ++ [d]) j') → k' σ2 H1) → g v (wipe σ vs) H1 k')
    (hl : ∀ a ds j, I a ds j → ds.length = a) (hP : ∀ ds j, I l.length ds j → P (.lst ds) j) : EvG Z (tLc wi g tYes te vs) σ B i P := fun B1 H1 e1 e2 o k Q c => (h.up e1) H1 e2 _ fun J B2 H2 nw lp D hD => by
  have k2 : Z.S i H2 := Z.up i H1 H2 k nw.heap
  have o2 : OutG Z B2 := (nw.g (Z := Z)).out k o
  have nD : ¬ Z.ch D := fun z => Z.at_ i H2 D k2 z hD
  unfold LoopN at lp
  rw [List.length_map] at lp
  refine lc_it lp (fun a H' => ∃ B' acc ds j, NewG Z B2 H2 B' H' ∧ H' D = some (.lst acc) ∧ B' D = none ∧ Z.S j H' ∧ RA B' acc ds ∧ I a ds j) ?_ ?_ ?_ ?_
  · refine ⟨B2, [], [], i, ⟨Evl.Ex.refl _, Evl.Ex.mut nw.sub (fresh_back nw.sub hD), fun x u hx hu => ?_, fun _ h _ => h⟩, upd_same, fresh_back nw.sub hD, Z.up i H2 _ k2 (Evl.Ex.new hD), .nil, h0⟩
    rw [upd_ne (fun z => by subst z; rw [hD] at hu; cases hu)]
    exact hu
  · rintro a H' _ ⟨B', acc, ds, j, n', _⟩
    exact n'.ext.trans n'.sub
  · rintro a x H' H'' ha ⟨B', acc, ds, j, n', hDa, bD, kj, rd, hI⟩ y
    obtain ⟨B3, d, hd, n3, rx⟩ := y B' n'.ext n'.sub
    rw [List.getElem?_map] at hd
    cases hq : l[a]? with
    | none => rw [hq] at hd; cases hd
    | some q =>
    rw [hq] at hd; cases hd
    have n23 : NewG Z B2 H2 B3 H'' := NewG.trans kj n' n3.g
    have k3 := Z.up j H' H'' kj n3.heap
    have hD3 : H'' D = some (.lst acc) := n3.heap D _ hDa
    have b3 : B3 D = none := n3.fresh D bD (by rw [hDa]; exact fun z => nomatch z)
    refine hs a q ds j x B3 H'' _ hq hI (e1.trans (nw.ext.trans n23.ext)) n3.sub rx fun σ2 w2 he => ⟨w2, ?_⟩
    show te σ2 H'' _
    refine he B3 H'' (Evl.Ex.refl _) n3.sub (n23.out k2 o2) k3 _ fun w B4 H4 d j' hI' n4 k4 rw' => ?_
    have hl' := hl a ds j hI
    have hD4 : H4 D = some (.lst acc) := n4.heap D _ nD hD3
    have b4 : B4 D = none := n4.fresh D b3 (by rw [hD3]; exact fun z => nomatch z)
    refine ⟨acc, hD4, sz_lt (by rw [rd.len, hl']; omega), B4, acc ++ [w], ds ++ [d], j', ⟨n23.ext.trans n4.ext, Evl.Ex.mut n4.sub b4, fun x u hx hu => ?_, (NewG.trans k3 n23 n4).fresh⟩, upd_same, b4, Z.put j' H4 D _ k4 nD, (rd.mono (n3.ext.trans n4.ext)).append (RA.one rw'), hI'⟩
    rw [upd_ne (fun z => by subst z; rw [hD] at hu; cases hu)]
    exact n4.heap x u hx (n23.heap x u hx hu)
  · rintro H' ⟨B', acc, ds, j, n', hDa, bD, kj, rd, hI⟩
    have n4 : NewG Z B2 H2 (upd B' D (.lst acc)) H' := by
      refine ⟨n'.ext.trans (Evl.Ex.new bD), fun x u hx => ?_, n'.heap, fun x h1 h2 => ?_⟩
      · by_cases hxD : x = D
        · subst hxD; rw [upd_same] at hx; cases hx; exact hDa
        · rw [upd_ne hxD] at hx; exact n'.sub x u hx
      · rw [upd_ne (fun z => by subst z; exact h2 hD)]
        exact n'.fresh x h1 h2
    exact c _ _ H' (.lst ds) j (hP ds j hI) (NewG.trans k2 nw.g n4) kj (.lst upd_same (rd.mono (Evl.Ex.new bD)))
end
end U
namespace U
open PySem L2
open Evl (Ex fresh_back sz_of sz_lt sq_of st_of rLenS rListS)
/-- a promise: a program of lv levels, out of the purse -/
def spProg (lv : Nat) : Sp := fun vs H Q _ => ∃ (p q r : Addr) (w : V) (B : Hp) (k a b : Int), vs = [.ref p, w, .ref r, .int (lv : Nat)] ∧ Ex B H ∧ OutG (Zu p q r) B ∧ (Zu p q r).S k H ∧ R B w (eFr a b) ∧ (1 ≤ a ∧ a ≤ 3 ∧ 1 ≤ b ∧ b ≤ 3) ∧ 1 ≤ lv ∧ 0 ≤ k ∧ k ≤ 100 ∧
  ∀ v B2 H2 ss k', okPL a b lv ss → (szP ss : Int) + k' = k → 0 ≤ k' → NewG (Zu p q r) B H B2 H2 → (Zu p q r).S k' H2 → R B2 v (.tup (ePg ss)) → Q v H2
/-- one statement: itself is counted already -/
def spStat (lv : Nat) : Sp := fun vs H Q _ => ∃ (p q r : Addr) (w : V) (B : Hp) (k a b : Int), vs = [.ref p, w, .ref r, .int (lv : Nat)] ∧ Ex B H ∧ OutG (Zu p q r) B ∧ (Zu p q r).S k H ∧ R B w (eFr a b) ∧ (1 ≤ a ∧ a ≤ 3 ∧ 1 ≤ b ∧ b ≤ 3) ∧ 1 ≤ lv ∧ 0 ≤ k ∧ k ≤ 100 ∧
  ∀ v B2 H2 s k', okSL a b (okPL a b (lv - 1)) s → (szS s : Int) + k' = k + 1 → 0 ≤ k' → NewG (Zu p q r) B H B2 H2 → (Zu p q r).S k' H2 → R B2 v (eSt s) → Q v H2
section
variable {K : PySem.W.Frag} {p q r : Addr} {σ : L2.St} {B H : Hp} {te tw tl : TE} {k a b : Int} {n m lv : Nat} {E : XK} {D : Ends}
theorem eg_prog (h0 : σ[n]? = some (some (.ref p))) (h2 : σ[m]? = some (some (.ref r))) (hw : EvR tw σ B (eFr a b)) (hl : EvR tl σ B (.int (lv : Nat))) (f : 1 ≤ a ∧ a ≤ 3 ∧ 1 ≤ b ∧ b ≤ 3) (l1 : 1 ≤ lv) (k0 : 0 ≤ k) (k1 : k ≤ 100) :
    EvG (Zu p q r) (tCall (spProg lv) [] E (tCons (tVar n) (tCons tw (tCons (tVar m) (tCons tl tNil))))) σ B k (fun d k' => ∃ ss, okPL a b lv ss ∧ (szP ss : Int) + k' = k ∧ 0 ≤ k' ∧ d = .tup (ePg ss)) := fun B1 H1 e1 e2 o s Q c =>
  ⟨_, h0, (hw.mono e1) H1 e2 _ fun w B2 H2 n2 rw' => ⟨_, h2, ((hl.mono e1).mono n2.ext) H2 n2.sub _ fun l B3 H3 n3 rl => by
    cases rl
    have N := n2.trans n3
    have s3 := (Zu p q r).up k H1 H3 s N.heap
    refine ⟨p, q, r, w, B3, k, a, b, rfl, N.sub, (N.g (Z := Zu p q r)).out s o, s3, rw'.mono n3.ext, f, l1, k0, k1, fun v B4 H4 ss k' h1 h2 h3 n4 s4 r4 => ?_⟩
    exact c v B4 H4 _ k' ⟨ss, h1, h2, h3, rfl⟩ (NewG.trans s3 N.g n4) s4 r4⟩⟩
theorem eg_stat (h0 : σ[n]? = some (some (.ref p))) (h2 : σ[m]? = some (some (.ref r))) (hw : EvR tw σ B (eFr a b)) (hl : EvR tl σ B (.int (lv : Nat))) (f : 1 ≤ a ∧ a ≤ 3 ∧ 1 ≤ b ∧ b ≤ 3) (l1 : 1 ≤ lv) (k0 : 0 ≤ k) (k1 : k ≤ 100) :
    EvG (Zu p q r) (tCall (spStat lv) [] E (tCons (tVar n) (tCons tw (tCons (tVar m) (tCons tl tNil))))) σ B k (fun d k' => ∃ s, okSL a b (okPL a b (lv - 1)) s ∧ (szS s : Int) + k' = k + 1 ∧ 0 ≤ k' ∧ d = eSt s) := fun B1 H1 e1 e2 o s Q c =>
  ⟨_, h0, (hw.mono e1) H1 e2 _ fun w B2 H2 n2 rw' => ⟨_, h2, ((hl.mono e1).mono n2.ext) H2 n2.sub _ fun l B3 H3 n3 rl => by
    cases rl
    have N := n2.trans n3
    have s3 := (Zu p q r).up k H1 H3 s N.heap
    refine ⟨p, q, r, w, B3, k, a, b, rfl, N.sub, (N.g (Z := Zu p q r)).out s o, s3, rw'.mono n3.ext, f, l1, k0, k1, fun v B4 H4 ss k' h1 h2 h3 n4 s4 r4 => ?_⟩
    exact c v B4 H4 _ k' ⟨ss, h1, h2, h3, rfl⟩ (NewG.trans s3 N.g n4) s4 r4⟩⟩
/-- purse[0] -/
theorem eg_purse (h : σ[n]? = some (some (.ref r))) : EvG (Zu p q r) (tOp (rIx K) (tVar n) (tC (.int 0))) σ B k (fun d j => d = .int k ∧ j = k) := fun B1 H1 e1 e2 o s Q c =>
  ⟨_, h, .inl ⟨r, [.int k], 0, .int k, rfl, rfl, sq_of s.2.2.2, rfl, c _ B1 H1 (.int k) k ⟨rfl, rfl⟩ (NewG.refl e2) s (.int k)⟩⟩
/-- purse[0] = e -/
theorem s_setU {z : Int} (e : Ex B H) (o : OutG (Zu p q r) B) (s : (Zu p q r).S k H) (hv : σ[n]? = some (some (.ref r))) (h : EvG (Zu p q r) te σ B k (fun d j => d = .int z ∧ j = k))
    (c : ∀ B2 H2, NewG (Zu p q r) B H B2 H2 → OutG (Zu p q r) B2 → (Zu p q r).S z H2 → D.nx σ H2) : tAsg te (gSub (tVar n) (tC (.int 0)) L2.rSetL) D σ H :=
  h B H (Ex.refl B) e o s _ fun v B2 H2 d j ⟨hd, hj⟩ n2 s2 r2 => by
    subst hd hj
    cases r2
    refine ⟨_, hv, r, [.int j], 0, 0, rfl, rfl, s2.2.2.2, rfl, ?_⟩
    have o2 := n2.out s o
    have br : B2 r = none := o2 r (.inr (.inr rfl))
    refine c B2 (upd H2 r (.lst [.int z])) ⟨n2.ext, Evl.Ex.mut n2.sub br, fun x u hx hu => ?_, n2.fresh⟩ o2 ⟨s2.1.put s2.2.1 s2.2.2.1, s2.2.1, s2.2.2.1, upd_same⟩
    rw [upd_ne (fun w => hx (.inr (.inr w)))]
    exact n2.heap x u hx hu
end
end U

/-! VM: what an order of corner values does to spans, covers and pictures. -/
namespace U
open PySem L2
/-- spans that go over by f where they are not empty, and stay empty -/
def SpR (f : Int → Int) (x y : Int × Int) : Prop := (¬ x.1 < x.2 ∧ ¬ y.1 < y.2) ∨ (x.1 < x.2 ∧ y = (f x.1, f x.2) ∧ f x.1 < f x.2)
inductive SpsR (f : Int → Int) : List (Int × Int) → List (Int × Int) → Prop
  | nil : SpsR f [] []
  | cons {x y : Int × Int} {xs ys : List (Int × Int)} : SpR f x y → SpsR f xs ys → SpsR f (x :: xs) (y :: ys)
/-- f keeps the order on the set -/
def MonoOn (f : Int → Int) (S : List Int) : Prop := ∀ a ∈ S, ∀ b ∈ S, a < b → f a < f b
theorem MonoOn.iff {f : Int → Int} {S : List Int} (h : MonoOn f S) {a b : Int} (ha : a ∈ S) (hb : b ∈ S) : f a < f b ↔ a < b := by
  constructor
  · intro hf
    by_cases h1 : a < b
    · exact h1
    · by_cases h2 : b < a
      · have := h b hb a ha h2; omega
      · have : a = b := by omega
        subst this; omega
  · exact h a ha b hb
theorem edges_map {f : Int → Int} : ∀ {xs ys : List (Int × Int)}, SpsR f xs ys → edgesOf ys = (edgesOf xs).map f
  | _, _, .nil => rfl
  | _, _, .cons (x := x) (y := y) h t => by
    have ih := edges_map t
    unfold edgesOf at ih ⊢
    rcases h with ⟨h1, h2⟩ | ⟨h1, rfl, h2⟩
    · rw [List.filter_cons, List.filter_cons, if_neg (by simpa using h2), if_neg (by simpa using h1)]
      exact ih
    · rw [List.filter_cons, List.filter_cons, if_pos (by simpa using h2), if_pos (by simpa using h1), List.flatMap_cons, List.flatMap_cons, List.map_append, ih]
      rfl
theorem edges_mem {xs : List (Int × Int)} {x : Int × Int} (h : x ∈ xs) (h1 : x.1 < x.2) : x.1 ∈ edgesOf xs ∧ x.2 ∈ edgesOf xs := by
  have hf : x ∈ xs.filter fun p => decide (p.1 < p.2) := List.mem_filter.mpr ⟨h, by simpa using h1⟩
  exact ⟨List.mem_flatMap.mpr ⟨x, hf, by simp⟩, List.mem_flatMap.mpr ⟨x, hf, by simp⟩⟩
theorem edges_ok {f : Int → Int} {xs ys : List (Int × Int)} {o : List Int} (h : SpsR f xs ys) (m : MonoOn f (edgesOf xs)) (ho : EdgesOk xs o) : EdgesOk ys (o.map f) := by
  refine ⟨fun x => ?_, ?_⟩
  · rw [edges_map h, List.mem_map, List.mem_map]
    exact ⟨fun ⟨a, h1, h2⟩ => ⟨a, (ho.1 a).mp h1, h2⟩, fun ⟨a, h1, h2⟩ => ⟨a, (ho.1 a).mpr h1, h2⟩⟩
  · rw [List.pairwise_map]
    exact ho.2.imp_of_mem fun ha hb hab => m _ ((ho.1 _).mp ha) _ ((ho.1 _).mp hb) hab
theorem in_same {f : Int → Int} {S : List Int} {x y : Int × Int} {e : Int} (m : MonoOn f S) (h : SpR f x y) (he : e ∈ S) (hx : x.1 < x.2 → x.1 ∈ S ∧ x.2 ∈ S) : inSp (f e) y = inSp e x := by
  unfold inSp
  rcases h with ⟨h1, h2⟩ | ⟨h1, rfl, h2⟩
  · have a : ∀ (z : Int × Int) (c : Int), ¬ z.1 < z.2 → (decide (z.1 ≤ c) && decide (c < z.2)) = false := fun z c hz => by
      by_cases k : z.1 ≤ c
      · rw [decide_eq_false (p := c < z.2) (by omega), Bool.and_false]
      · rw [decide_eq_false k, Bool.false_and]
    rw [a y _ h2, a x _ h1]
  · obtain ⟨k1, k2⟩ := hx h1
    have i1 := m.iff he k1
    have i2 := m.iff he k2
    have e1 : decide (f x.1 ≤ f e) = decide (x.1 ≤ e) := by
      by_cases k : x.1 ≤ e
      · rw [decide_eq_true k, decide_eq_true (by omega)]
      · rw [decide_eq_false k, decide_eq_false (by omega)]
    have e2 : decide (f e < f x.2) = decide (e < x.2) := by
      by_cases k : e < x.2
      · rw [decide_eq_true k, decide_eq_true (by omega)]
      · rw [decide_eq_false k, decide_eq_false (by omega)]
    show (decide (f x.1 ≤ f e) && decide (f e < f x.2)) = _
    rw [e1, e2]
theorem stack_same_go {f : Int → Int} {S : List Int} {e : Int} (m : MonoOn f S) (he : e ∈ S) : ∀ {xs ys : List (Int × Int)} (k : Nat), SpsR f xs ys → (∀ x ∈ xs, x.1 < x.2 → x.1 ∈ S ∧ x.2 ∈ S) →
    (((ys.zipIdx k).filter fun p => inSp (f e) p.1).map fun p => (2 : Int) ^ p.2) = (((xs.zipIdx k).filter fun p => inSp e p.1).map fun p => (2 : Int) ^ p.2)
  | _, _, _, .nil, _ => rfl
  | _, _, k, .cons (x := x) (y := y) (xs := xs) (ys := ys) h t, hS => by
    have ih := stack_same_go m he (k + 1) t fun z hz => hS z (List.mem_cons_of_mem _ hz)
    have hx := in_same m h he (hS x List.mem_cons_self)
    rw [List.zipIdx_cons, List.zipIdx_cons, List.filter_cons, List.filter_cons]
    dsimp only
    rw [hx]
    cases inSp e x with
    | true =>
      rw [if_pos rfl, if_pos rfl, List.map_cons, List.map_cons, ih]
    | false =>
      rw [if_neg (by simp), if_neg (by simp), ih]
theorem stack_same {f : Int → Int} {xs ys : List (Int × Int)} {e : Int} (h : SpsR f xs ys) (m : MonoOn f (edgesOf xs)) (he : e ∈ edgesOf xs) : stackAt ys (f e) = stackAt xs e := by
  unfold stackAt
  rw [stack_same_go m he 0 h fun x hx h1 => edges_mem hx h1]
/-- there are edges in order -/
def insA (x : Int) : List Int → List Int
  | [] => [x]
  | y :: ys => if x < y then x :: y :: ys else if x = y then y :: ys else y :: insA x ys
theorem insA_mem {x z : Int} : ∀ {ys : List Int}, z ∈ insA x ys ↔ z = x ∨ z ∈ ys
  | [] => by simp [insA]
  | y :: ys => by
    unfold insA
    split
    · simp
    · split
      · rename_i h
        subst h
        simp
      · rw [List.mem_cons, insA_mem, List.mem_cons]
        constructor
        · rintro (h | h | h)
          · exact .inr (.inl h)
          · exact .inl h
          · exact .inr (.inr h)
        · rintro (h | h | h)
          · exact .inr (.inl h)
          · exact .inl h
          · exact .inr (.inr h)
theorem insA_asc {x : Int} : ∀ {ys : List Int}, ys.Pairwise (· < ·) → (insA x ys).Pairwise (· < ·)
  | [], _ => by simp [insA]
  | y :: ys, h => by
    have h' := List.pairwise_cons.mp h
    unfold insA
    split
    · rename_i hx
      refine List.pairwise_cons.mpr ⟨fun z hz => ?_, h⟩
      rcases List.mem_cons.mp hz with rfl | hz
      · exact hx
      · have := h'.1 z hz; omega
    · split
      · exact h
      · rename_i h1 h2
        refine List.pairwise_cons.mpr ⟨fun z hz => ?_, insA_asc h'.2⟩
        rcases insA_mem.mp hz with rfl | hz
        · omega
        · exact h'.1 z hz
theorem asc_ex : ∀ l : List Int, ∃ o : List Int, (∀ x, x ∈ o ↔ x ∈ l) ∧ o.Pairwise (· < ·)
  | [] => ⟨[], fun _ => Iff.rfl, .nil⟩
  | x :: l => by
    obtain ⟨o, h1, h2⟩ := asc_ex l
    exact ⟨insA x o, fun z => by rw [insA_mem, h1, List.mem_cons], insA_asc h2⟩
theorem edgeL_ok (sp : List (Int × Int)) : EdgesOk sp (edgeL sp) := by
  obtain ⟨o, h1, h2⟩ := asc_ex (edgesOf sp)
  have := edgeL_eq (sp := sp) (o := o) ⟨h1, h2⟩
  rw [← this]
  exact ⟨h1, h2⟩
theorem cov_map {f : Int → Int} {xs ys : List (Int × Int)} (h : SpsR f xs ys) (m : MonoOn f (edgesOf xs)) : covL ys = (covL xs).map fun p => (f p.1, p.2) := by
  have hx := edgeL_ok xs
  have hy := edgeL_eq (edges_ok h m hx)
  unfold covL coverL
  rw [← hy, List.map_map, List.map_map]
  refine List.map_congr_left fun e he => ?_
  show (f e, stackAt ys (f e)) = (f e, stackAt xs e)
  rw [stack_same h m ((hx.1 e).mp he)]
end U
namespace U
open PySem L2
/-! ### moved by d -/
def shB (d : Int) (b : Bd) : Bd := ⟨b.lows.map (mvC · d), b.highs.map (mvC · d), b.tests⟩
theorem cv_mv {vs : List Int} {c : Cor} {d : Int} : cv vs (mvC c d) = cv vs c + d := by
  unfold cv mvC
  dsimp only
  omega
theorem maxL_add {d : Int} {xs : List Int} (h : xs ≠ []) : maxL (xs.map (· + d)) = maxL xs + d := by
  refine (maxL_eq (List.mem_map.mpr ⟨_, maxL_mem h, rfl⟩) fun y hy => ?_).symm
  obtain ⟨z, hz, rfl⟩ := List.mem_map.mp hy
  have := le_maxL hz
  omega
theorem minL_add {d : Int} {xs : List Int} (h : xs ≠ []) : minL (xs.map (· + d)) = minL xs + d := by
  refine (minL_eq (List.mem_map.mpr ⟨_, minL_mem h, rfl⟩) fun y hy => ?_).symm
  obtain ⟨z, hz, rfl⟩ := List.mem_map.mp hy
  have := minL_le hz
  omega
theorem span_sh {vs : List Int} {b : Bd} {d : Int} (h1 : b.lows ≠ []) (h2 : b.highs ≠ []) : SpR (· + d) (spanB vs b) (spanB vs (shB d b)) := by
  unfold spanB shB
  dsimp only
  by_cases h : b.tests.all (hold vs) = true
  · rw [if_pos h, if_pos h]
    have e1 : (b.lows.map (mvC · d)).map (cv vs) = (b.lows.map (cv vs)).map (· + d) := by
      rw [List.map_map, List.map_map]
      exact List.map_congr_left fun c _ => cv_mv
    have e2 : (b.highs.map (mvC · d)).map (cv vs) = (b.highs.map (cv vs)).map (· + d) := by
      rw [List.map_map, List.map_map]
      exact List.map_congr_left fun c _ => cv_mv
    rw [e1, e2, maxL_add (by simpa using h1), minL_add (by simpa using h2)]
    by_cases hlt : maxL (b.lows.map (cv vs)) < minL (b.highs.map (cv vs))
    · exact .inr ⟨hlt, rfl, by show _ + d < _ + d; omega⟩
    · exact .inl ⟨hlt, by show ¬ (_ + d < _ + d); omega⟩
  · rw [if_neg h, if_neg h]
    exact .inl ⟨by decide, by decide⟩
/-- all values of the axis grow by d -/
theorem cv_add {vs : List Int} {c : Cor} {d : Int} (h : CIn vs c) : cv (vs.map (· + d)) c = cv vs c + d := by
  unfold cv
  have hi : c.1.toNat < vs.length := by have := h.1; have := h.2; omega
  rw [List.getD_eq_getElem?_getD, List.getD_eq_getElem?_getD, List.getElem?_map, List.getElem?_eq_getElem hi]
  simp only [Option.map_some, Option.getD_some]
  omega
theorem span_add {vs : List Int} {b : Bd} {d : Int} (h : BdIn vs b) : spanB (vs.map (· + d)) b = spanB vs (shB d b) := by
  obtain ⟨h1, h2, h3, _⟩ := h
  have ht : b.tests.all (hold (vs.map (· + d))) = b.tests.all (hold vs) := by
    have : ∀ l : List (Cor × Cor), (∀ t ∈ l, CIn vs t.1 ∧ CIn vs t.2) → l.all (hold (vs.map (· + d))) = l.all (hold vs) := fun l => by
      induction l with
      | nil => intro _; rfl
      | cons t l ih =>
        intro hl
        have ht := hl t List.mem_cons_self
        rw [List.all_cons, List.all_cons, ih fun x hx => hl x (List.mem_cons_of_mem _ hx)]
        congr 1
        unfold hold
        rw [cv_add ht.1, cv_add ht.2]
        by_cases k : cv vs t.1 < cv vs t.2
        · rw [decide_eq_true k, decide_eq_true (by omega)]
        · rw [decide_eq_false k, decide_eq_false (by omega)]
    exact this _ h3
  unfold spanB shB
  dsimp only
  rw [ht]
  have e1 : b.lows.map (cv (vs.map (· + d))) = (b.lows.map (mvC · d)).map (cv vs) := by
    rw [List.map_map]
    exact List.map_congr_left fun c hc => by rw [cv_add (h1 c hc)]; exact cv_mv.symm
  have e2 : b.highs.map (cv (vs.map (· + d))) = (b.highs.map (mvC · d)).map (cv vs) := by
    rw [List.map_map]
    exact List.map_congr_left fun c hc => by rw [cv_add (h2 c hc)]; exact cv_mv.symm
  rw [e1, e2]
theorem mono_add (d : Int) (S : List Int) : MonoOn (· + d) S := fun a _ b _ h => by
  show a + d < b + d
  omega
end U
namespace U
open PySem L2
def shA (dx dy : Int) (ar : Ar) : Ar := (shB dx ar.1, shB dy ar.2)
def shK (dx dy : Int) (s : Sk) : Sk := ⟨shB dx s.across, shB dy s.down, s.col⟩
theorem mvC_mvC {c : Cor} {a b : Int} : mvC (mvC c a) b = mvC c (a + b) := by
  unfold mvC
  dsimp only
  rw [Int.add_assoc]
theorem nar_sh {b : Bd} {lo hi : Cor} {m d : Int} : nar (shB d b) lo hi (m + d) = shB d (nar b lo hi m) := by
  unfold nar shB
  simp only [List.map_append, List.map_cons, List.map_nil, mvC_mvC]
theorem boxd_sh {ar : Ar} {x : Bx} {mv : Int × Int} {dx dy : Int} : boxd (shA dx dy ar) x (mv.1 + dx, mv.2 + dy) = shA dx dy (boxd ar x mv) := by
  unfold boxd shA
  dsimp only
  rw [nar_sh, nar_sh]
theorem tst_sh {ar : Ar} {ax : Bool} {p q : Cor} {dx dy : Int} : tst (shA dx dy ar) ax p q = shA dx dy (tst ar ax p q) := by
  cases ax <;> rfl
mutual
theorem skS_sh {dx dy : Int} : ∀ (s : Sm) (mv : Int × Int) (ar : Ar), skS s (mv.1 + dx, mv.2 + dy) (shA dx dy ar) = (skS s mv ar).map (shK dx dy)
  | .fill bx c, mv, ar => by rw [skS, skS, boxd_sh]; rfl
  | .clip bx ss, mv, ar => by rw [skS, skS, boxd_sh]; exact skP_sh ss mv _
  | .move ex ey ss, mv, ar => by
    rw [skS, skS]
    have := skP_sh (dx := dx) (dy := dy) ss (mv.1 + ex, mv.2 + ey) ar
    rw [← this]
    congr 2
    · dsimp only; omega
    · dsimp only; omega
  | .iff ax p q a b, mv, ar => by
    rw [skS, skS, List.map_append, tst_sh, tst_sh, skP_sh a mv _, skP_sh b mv _]
theorem skP_sh {dx dy : Int} : ∀ (ss : List Sm) (mv : Int × Int) (ar : Ar), skP ss (mv.1 + dx, mv.2 + dy) (shA dx dy ar) = (skP ss mv ar).map (shK dx dy)
  | [], mv, ar => by rw [skP, skP]; rfl
  | s :: ss, mv, ar => by rw [skP, skP, List.map_append, skS_sh s mv ar, skP_sh ss mv ar]
end
theorem skP_move {dx dy : Int} (ss : List Sm) : skP [.move dx dy ss] (0, 0) (unb, unb) = (skP ss (0, 0) (unb, unb)).map (shK dx dy) := by
  rw [skP, skP, List.append_nil, skS]
  exact skP_sh ss (0, 0) (unb, unb)
theorem skP_move2 {ax ay bx b_y : Int} (ss : List Sm) : skP [.move bx b_y [.move ax ay ss]] (0, 0) (unb, unb) = skP [.move (ax + bx) (ay + b_y) ss] (0, 0) (unb, unb) := by
  rw [skP, skP, List.append_nil, skS, skP, skP, List.append_nil, skS, skP, skP, List.append_nil, skS]
  dsimp only
  congr 2
  · omega
  · omega
/-- spans of an axis, moved -/
theorem spans_sh {ax : Bool} {vs : List Int} {dx dy : Int} : ∀ (sks : List Sk), (∀ s ∈ sks, BdIn vs (if ax = true then s.across else s.down)) →
    SpsR (· + (if ax = true then dx else dy)) (spansA ax sks vs) (spansA ax (sks.map (shK dx dy)) vs) ∧ SpsR (· + dx) (spansA ax sks vs) (spansA ax sks (vs.map (· + dx)))
  | [], _ => ⟨.nil, .nil⟩
  | s :: sks, h => by
    obtain ⟨h1, h2⟩ := spans_sh (dx := dx) (dy := dy) sks fun x hx => h x (List.mem_cons_of_mem _ hx)
    have hs := h s List.mem_cons_self
    have n1 := hs.2.2.2.1
    have n2 := hs.2.2.2.2.1
    refine ⟨.cons ?_ h1, .cons ?_ h2⟩
    · have := span_sh (vs := vs) (d := if ax = true then dx else dy) n1 n2
      have e : (if ax = true then (shK dx dy s).across else (shK dx dy s).down) = shB (if ax = true then dx else dy) (if ax = true then s.across else s.down) := by cases ax <;> rfl
      show SpR _ (spanB vs _) (spanB vs (if ax = true then (shK dx dy s).across else (shK dx dy s).down))
      rw [e]
      exact this
    · have := span_sh (vs := vs) (d := dx) n1 n2
      show SpR _ (spanB vs _) (spanB (vs.map (· + dx)) _)
      rw [span_add hs]
      exact this
end U

/-! VT: drawn things given to names: pairs, calls whose arguments draw, a purse. -/
namespace U
open PySem L2
open Evl (Ex fresh_back sz_of sz_lt sq_of st_of rLenS rListS)
section
variable {ι : Type} {Z : Sta ι} {K : PySem.W.Frag} {p q : Addr} {σ : L2.St} {B H : Hp} {te : TE} {tl : TA} {i : ι} {n u w : Nat} {D : Ends}
/-- a call of a def that draws, with arguments that draw -/
theorem eg_callKG (kd : DkIn p q Z) {E : XK} {pre : List Dt → Prop} {g : List Dt → Dt → Prop} {PL : List Dt → ι → Prop} {P : Dt → ι → Prop} (hv : σ[n]? = some (some (.ref p))) (h : EvGA Z tl σ B i PL) (hp : ∀ ds j, PL ds j → pre ds) (hP : ∀ ds j d, PL ds j → g ds d → P d j) : EvG Z (tCall (spK pre g) [] E (tCons (tVar n) tl)) σ B i P := fun B1 H1 e1 e2 o k Q c =>
  ⟨_, hv, h B1 H1 e1 e2 o k _ fun ws B2 H2 as j pa n2 k2 rw' => by
    have o2 := n2.out k o
    refine ⟨p, q, ws, B2, as, by rw [List.append_nil], n2.sub, ⟨o2 p kd.hp, o2 q kd.hq⟩, kd.dk j H2 k2, rw', hp as j pa, fun v B3 H3 d hg n3 dk r3 => ?_⟩
    exact c v B3 H3 d j (hP as j d pa hg) (NewG.trans k2 n2 (n3.g kd)) (kd.st j H2 H3 k2 n3.heap dk) r3⟩
/-- a, b = e1, e2 -/
theorem s_parG {PL : List Dt → ι → Prop} (e : Ex B H) (o : OutG Z B) (k : Z.S i H) (h : EvGA Z tl σ B i PL) (hl : ∀ ds j, PL ds j → ds.length = 2)
    (c : ∀ v v' B1 H1 d d' j, PL [d, d'] j → NewG Z B H B1 H1 → OutG Z B1 → Z.S j H1 → R B1 v d → R B1 v' d' → D.nx ((σ.set u (some v)).set w (some v')) H1) : tPar u w tl D σ H :=
  h B H (Ex.refl B) e o k _ fun vs B1 H1 ds j pd n1 k1 ra => by
    have hl := hl ds j pd
    rcases ra with _ | ⟨r1, _ | ⟨r2, _ | _⟩⟩
    · cases hl
    · cases hl
    · exact ⟨_, _, rfl, c _ _ B1 H1 _ _ j pd n1 (n1.out k o) k1 r1 r2⟩
    · exact absurd hl (by simp)
/-- a, b = e: a pair -/
theorem s_asg2G {P : Dt → ι → Prop} (e : Ex B H) (o : OutG Z B) (k : Z.S i H) (h : EvG Z te σ B i P) (hl : ∀ d j, P d j → ∃ x y, d = .tup [x, y])
    (c : ∀ v v' B1 H1 d d' j, P (.tup [d, d']) j → NewG Z B H B1 H1 → OutG Z B1 → Z.S j H1 → R B1 v d → R B1 v' d' → D.nx ((σ.set u (some v)).set w (some v')) H1) : tAsg te (gTup K 2 (gCons (gName u) (gCons (gName w) gNil))) D σ H :=
  h B H (Ex.refl B) e o k _ fun v B1 H1 d j pd n1 k1 rv => by
    obtain ⟨x, y, rfl⟩ := hl d j pd
    obtain ⟨a, vs, rfl, ha, ra⟩ := rv.tup_inv
    rcases ra with _ | ⟨r1, _ | ⟨r2, _ | _⟩⟩
    exact ⟨a, _, rfl, st_of (n1.sub _ _ ha), rfl, _, _, rfl, _, _, rfl, rfl, c _ _ B1 H1 _ _ j pd n1 (n1.out k o) k1 r1 r2⟩
end
section
variable {K : PySem.W.Frag} {p q r : Addr} {σ : L2.St} {B B1 H : Hp} {te : TE} {u w : Nat} {D : Ends} {k : Int}
/-- home, purse = .., [k] -/
theorem s_parP {P : Dt → Unit → Prop} (e : Ex B H) (o : OutG (Zd p q) B) (s : (Zd p q).S () H) (h : EvG (Zd p q) te σ B () P)
    (c : ∀ v r B1 H1 d, P d () → Ex B B1 → Ex B1 H1 → OutG (Zu p q r) B1 → (Zu p q r).S k H1 → R B1 v d → D.nx ((σ.set u (some v)).set w (some (.ref r))) H1) : tPar u w (tCons te (tCons (tLst (tCons (tC (.int k)) tNil)) tNil)) D σ H :=
  h B H (Ex.refl B) e o s _ fun v B1 H1 d j pd n1 k1 rv => ⟨sz_of (by simp), fun a ha => by
    have o1 := n1.out s o
    have hb := fresh_back n1.sub ha
    have np : a ≠ p := fun z => k1.np (z ▸ ha)
    have nq : a ≠ q := fun z => k1.nq (z ▸ ha)
    refine ⟨_, _, rfl, c v a B1 _ d pd n1.ext (n1.sub.trans (Evl.Ex.new ha)) (fun x hx => ?_) ⟨k1.ex (Evl.Ex.new ha), np, nq, upd_same⟩ rv⟩
    rcases hx with rfl | rfl | rfl
    · exact o1 _ (.inl rfl)
    · exact o1 _ (.inr rfl)
    · exact hb⟩
/-- purse = [k] -/
theorem s_newU (e : Ex B H) (o : OutG (Zd p q) B) (s : (Zd p q).S () H) (c : ∀ r H1, Ex B H1 → OutG (Zu p q r) B → (Zu p q r).S k H1 → D.nx (σ.set w (some (.ref r))) H1) : tAsg (tLst (tCons (tC (.int k)) tNil)) (gName w) D σ H :=
  ⟨sz_of (by simp), fun a ha => by
    have hb := fresh_back e ha
    have np : a ≠ p := fun z => s.np (z ▸ ha)
    have nq : a ≠ q := fun z => s.nq (z ▸ ha)
    refine c a _ (e.trans (Evl.Ex.new ha)) (fun x hx => ?_) ⟨s.ex (Evl.Ex.new ha), np, nq, upd_same⟩
    rcases hx with rfl | rfl | rfl
    · exact o _ (.inl rfl)
    · exact o _ (.inr rfl)
    · exact hb⟩
/-- the purse is done with -/
theorem outU (o : OutG (Zu p q r) B) : OutG (Zd p q) B := fun a ha => o a (by rcases ha with rfl | rfl; exact .inl rfl; exact .inr (.inl rfl))
theorem staU (s : (Zu p q r).S k H) : (Zd p q).S () H := s.1
end
end U
namespace U
open PySem L2
open Evl (Ex fresh_back sz_of sz_lt sq_of st_of rLenS rListS)
/-- on the way from (B0, H0), the deck at p and q -/
structure Lv (p q : Addr) (B0 H0 B H : Hp) : Prop where
  n : NewG (Zd p q) B0 H0 B H
  o : OutG (Zd p q) B
  s : Dk p q H
section
variable {K : PySem.W.Frag} {p q : Addr} {σ : L2.St} {B0 H0 B B1 H H1 : Hp} {ta tb te tm : TE} {tl tr : TA} {n i j u w : Nat} {D : Ends} {d x y z : Dt} {ds as : List Dt} {Q : VK} {v v' : V} {vs ws : List V} {r : R2}
theorem Lv.e (l : Lv p q B0 H0 B H) : Ex B H := l.n.sub
theorem lv_start (e : Ex B H) (o : OutG (Zd p q) B) (s : Dk p q H) : Lv p q B H B H := ⟨NewG.refl e, o, s⟩
theorem Lv.new (l : Lv p q B0 H0 B H) (m : New B H B1 H1) : Lv p q B0 H0 B1 H1 := ⟨NewG.trans (Z := Zd p q) (i := ()) l.s l.n m.g, m.g.out (i := ()) l.s l.o, l.s.ex m.heap⟩
theorem Lv.newG (l : Lv p q B0 H0 B H) (m : NewG (Zd p q) B H B1 H1) (s : Dk p q H1) : Lv p q B0 H0 B1 H1 := ⟨NewG.trans (Z := Zd p q) (i := ()) l.s l.n m, m.out (i := ()) l.s l.o, s⟩
theorem Lv.up {H2 : Hp} (l : Lv p q B0 H0 B H) (m : Up B H H2) : Lv p q B0 H0 B H2 := l.new m.new
theorem lv_R (l : Lv p q B0 H0 B H) (h : EvR te σ B d) (c : ∀ v B1 H1, Ex B B1 → Lv p q B0 H0 B1 H1 → R B1 v d → Q v H1) : te σ H Q := h H l.e Q fun v B1 H1 m rv => c v B1 H1 m.ext (l.new m) rv
theorem lv_asg (l : Lv p q B0 H0 B H) (h : EvR te σ B d) (c : ∀ v B1 H1, Ex B B1 → Lv p q B0 H0 B1 H1 → R B1 v d → D.nx (σ.set i (some v)) H1) : tAsg te (gName i) D σ H := h H l.e _ fun v B1 H1 m rv => c v B1 H1 m.ext (l.new m) rv
theorem lv_cons {QA : List V → Hp → Prop} (h : te σ H fun v H1 => tr σ H1 fun vs H2 => QA (v :: vs) H2) : tCons te tr σ H QA := h
theorem lv_nil {QA : List V → Hp → Prop} (h : QA [] H) : tNil σ H QA := h
/-- a new list, the items are there -/
theorem lv_lst1 (l : Lv p q B0 H0 B H) (ra : RA B vs ds) (hl : ds.length ≤ 100000) (c : ∀ a B2 H2, Ex B B2 → Lv p q B0 H0 B2 H2 → R B2 (.ref a) (.lst ds) → Q (.ref a) H2) : vs.length ≤ sizeLine ∧ ∀ a, H a = none → Q (.ref a) (upd H a (.lst vs)) :=
  ⟨by rw [ra.len]; exact sz_of hl, fun a ha => by
    have N : New B H (upd B a (.lst vs)) (upd H a (.lst vs)) := New.one l.e ha
    exact c a _ _ N.ext (l.new N) (.lst upd_same (ra.mono N.ext))⟩
theorem lv_tup1 (l : Lv p q B0 H0 B H) (ra : RA B vs ds) (hl : ds.length ≤ 100000) (c : ∀ a B2 H2, Ex B B2 → Lv p q B0 H0 B2 H2 → R B2 (.ref a) (.tup ds) → Q (.ref a) H2) : vs.length ≤ sizeLine ∧ ∀ a, H a = none → Q (.ref a) (upd H a (.tup vs)) :=
  ⟨by rw [ra.len]; exact sz_of hl, fun a ha => by
    have N : New B H (upd B a (.tup vs)) (upd H a (.tup vs)) := New.one l.e ha
    exact c a _ _ N.ext (l.new N) (.tup upd_same (ra.mono N.ext))⟩
theorem Lv.lst {a : Addr} (l : Lv p q B0 H0 B H) (ra : RA B vs ds) (ha : H a = none) : ∃ B2, Ex B B2 ∧ Lv p q B0 H0 B2 (upd H a (.lst vs)) ∧ R B2 (.ref a) (.lst ds) :=
  have N : New B H (upd B a (.lst vs)) (upd H a (.lst vs)) := New.one l.e ha
  ⟨_, N.ext, l.new N, .lst upd_same (ra.mono N.ext)⟩
theorem Lv.tup {a : Addr} (l : Lv p q B0 H0 B H) (ra : RA B vs ds) (ha : H a = none) : ∃ B2, Ex B B2 ∧ Lv p q B0 H0 B2 (upd H a (.tup vs)) ∧ R B2 (.ref a) (.tup ds) :=
  have N : New B H (upd B a (.tup vs)) (upd H a (.tup vs)) := New.one l.e ha
  ⟨_, N.ext, l.new N, .tup upd_same (ra.mono N.ext)⟩
theorem lv_par {tf : TE} (h : te σ H fun v H1 => tf σ H1 fun v' H2 => D.nx ((σ.set u (some v)).set w (some v')) H2) : tPar u w (tCons te (tCons tf tNil)) D σ H := by
  have e : (fun v H1 => tf σ H1 fun v' H2 => D.nx ((σ.set u (some v)).set w (some v')) H2) = (fun v H1 => tf σ H1 fun v' H2 => ∃ a b, [v, v'] = [a, b] ∧ D.nx ((σ.set u (some a)).set w (some b)) H2) := by
    funext v H1
    congr 1
    funext v' H2
    refine propext ⟨fun z => ⟨v, v', rfl, z⟩, fun ⟨a, b, hab, z⟩ => ?_⟩
    injection hab with h1 h2
    injection h2 with h2 _
    subst h1 h2
    exact z
  rw [e] at h
  exact h
theorem lv_rv (l : Lv p q B0 H0 B H) (rz : RV r x y z) (rx : R B v x) (ry : R B v' y) (c : ∀ u B1 H1, Ex B B1 → Lv p q B0 H0 B1 H1 → R B1 u z → Q u H1) : r v v' H Q := rz B H v v' l.e rx ry Q fun u B1 H1 m ru => c u B1 H1 m.ext (l.new m) ru
/-- a draw -/
theorem lv_take {E : XK} {m : Int} (l : Lv p q B0 H0 B H) (hv : σ[n]? = some (some (.ref p))) (h : EvR tm σ B (.int m)) (h0 : 0 < m) (h1 : m < 2 ^ 900) (c : ∀ r H1, 0 ≤ r → r < m → Lv p q B0 H0 B H1 → Q (.int r) H1) : tCall spTake [] E (tCons (tVar n) (tCons tm tNil)) σ H Q :=
  ⟨_, hv, h H l.e _ fun w B2 H2 n2 rw' => by
    cases rw'
    have k2 := l.s.ex n2.heap
    refine ⟨p, q, m, rfl, h0, h1, k2, fun r H3 r0 r1 b dk => ?_⟩
    have op : B2 p = none := n2.fresh p (l.o p (.inl rfl)) l.s.np
    have oq : B2 q = none := n2.fresh q (l.o q (.inr rfl)) l.s.nq
    have N : NewG (Zd p q) B H B2 H3 := NewD.g dkIn_d ⟨n2.ext, b.ex n2.sub op oq, (But.of n2.heap).trans b, n2.fresh⟩
    have l2 := l.newG N dk
    have N1 : NewG (Zd p q) B0 H0 B H3 := ⟨l.n.ext, N.ext.trans N.sub, fun a u hc h => N.heap a u hc (l.n.heap a u hc h), l.n.fresh⟩
    exact c r H3 r0 r1 ⟨N1, l.o, dk⟩⟩
/-- a call of a def that draws -/
theorem lv_spK {E : XK} {pre : List Dt → Prop} {g : List Dt → Dt → Prop} (l : Lv p q B0 H0 B H) (ra : RA B ws as) (hp : pre as) (c : ∀ v B2 H2 d, g as d → Ex B B2 → Lv p q B0 H0 B2 H2 → R B2 v d → Q v H2) : spK pre g (.ref p :: ws ++ []) H Q E :=
  ⟨p, q, ws, B, as, by rw [List.append_nil], l.e, ⟨l.o p (.inl rfl), l.o q (.inr rfl)⟩, l.s, ra, hp, fun v B2 H2 d hd m s rv => c v B2 H2 d hd m.ext (l.newG (m.g dkIn_d) s) rv⟩
theorem lv_callK {E : XK} {pre : List Dt → Prop} {g : List Dt → Dt → Prop} (l : Lv p q B0 H0 B H) (hv : σ[n]? = some (some (.ref p))) (h : EvRA tl σ B as) (hp : pre as) (c : ∀ v B2 H2 d, g as d → Ex B B2 → Lv p q B0 H0 B2 H2 → R B2 v d → Q v H2) : tCall (spK pre g) [] E (tCons (tVar n) tl) σ H Q :=
  ⟨_, hv, h H l.e _ fun ws B1 H1 m ra => lv_spK (l.new m) ra hp fun v B2 H2 d hd x => c v B2 H2 d hd (m.ext.trans x)⟩
/-- [te for q in range(m)]: te may draw -/
theorem lv_lcR {m : Nat} {vs : List Nat} (I : Nat → List Dt → Prop) (l : Lv p q B0 H0 B H) (h : EvRA tl σ B [.int (m : Nat)]) (hm : m ≤ 1000) (hw : ∀ x, wipe ((wipe σ vs).set i (some x)) vs = wipe σ vs) (h0 : I 0 [])
    (hs : ∀ (a : Nat) ds B1 H1 B2 H2 (Q : VK), a < m → I a ds → Ex B B2 → Lv p q B1 H1 B2 H2 → (∀ v B3 H3 d, I (a + 1) (ds ++ [d]) → Lv p q B1 H1 B3 H3 → R B3 v d → Q v H3) → te ((wipe σ vs).set i (some (.int (a : Nat)))) H2 Q) (hl : ∀ a ds, I a ds → ds.length = a)
    (c : ∀ v B1 H1 ds, I m ds → Ex B B1 → Lv p q B0 H0 B1 H1 → R B1 v (.lst ds) → Q v H1) : tLc (iRng1 tl) (gName i) tYes te vs σ H Q :=
  (eg_lcR (Z := Zd p q) (P := fun d _ => ∃ ds, d = .lst ds ∧ I m ds) (i := ()) (fun a ds _ => I a ds) h hm hw h0 (fun a ds _ ha hI B1 H1 e1 e2 o k Q c => hs a ds B1 H1 B1 H1 Q ha hI e1 (lv_start e2 o k) fun v B3 H3 d hd l3 rv => c v B3 H3 d () hd l3.n l3.s rv) (fun a ds _ => hl a ds) fun ds _ hI => ⟨ds, rfl, hI⟩) B H (Ex.refl B) l.e l.o l.s Q fun v B1 H1 d _ ⟨ds, hd, hI⟩ m' s rv => c v B1 H1 ds hI m'.ext (l.newG m' s) (hd ▸ rv)
/-- the pair is there -/
theorem lv_pair {a : V} (l : Lv p q B0 H0 B H) (rv : R B a (.tup [x, y])) (c : ∀ v v', R B v x → R B v' y → D.nx ((σ.set u (some v)).set w (some v')) H) : gTup K 2 (gCons (gName u) (gCons (gName w) gNil)) a σ H D.nx := by
  obtain ⟨a, vs, rfl, ha, ra⟩ := rv.tup_inv
  rcases ra with _ | ⟨r1, _ | ⟨r2, _ | _⟩⟩
  exact ⟨a, _, rfl, st_of (l.e _ _ ha), rfl, _, _, rfl, _, _, rfl, rfl, c _ _ r1 r2⟩
theorem lv_if {t : TT} {tu tw : TS} {b : Bool} (l : Lv p q B0 H0 B H) (h : EvC t σ B b) (h1 : b = true → ∀ H1, Lv p q B0 H0 B H1 → tu D σ H1) (h2 : b = false → ∀ H1, Lv p q B0 H0 B H1 → tw D σ H1) : tIfS t tu tw D σ H := s_if l.e h (fun hb H1 m => h1 hb H1 (l.up m)) (fun hb H1 m => h2 hb H1 (l.up m))
/-- if .. != ..: return False, which does not happen -/
theorem lv_no {t : TT} {tu tw : TS} {b : Bool} (l : Lv p q B0 H0 B H) (h : EvC t σ B b) (hb : b = false) (h2 : ∀ H1, Lv p q B0 H0 B H1 → tw D σ H1) : tIfS t tu tw D σ H := lv_if l (h.is hb) (fun z => nomatch z) fun _ => h2
theorem rv_neSame (h1 : SeqAt.shaped x.py = true) (e : x = y) : RV (rNeD K) x y (.bl false) := by
  subst e
  have := rv_neD (K := K) (x := x) (y := x) h1 h1
  rw [SeqAt.eqv_refl _ (SeqAt.canLay_of_shaped h1)] at this
  exact this
end
end U

set_option maxHeartbeats 2000000
/-! ZU: zip of a text and two tuples. -/
namespace U
open PySem PySem.Spec PyProof.Rows L2
open Evl (Ex fresh_back sz_of sz_lt sq_of st_of rLenS rListS)
/-- the signs of x and the items of the tuples at a and b, in new tuples -/
def ItS3 (K : PySem.W.Frag) (x : Str) (a b : Addr) : It :=
  ⟨fun i H => ∃ ys zs : List V, SqT K H a ys ∧ SqT K H b zs ∧ i < min (min x.cps.size ys.length) zs.length,
    fun i H v H' => ∃ (T : Addr) (c : Nat) (y u : V), v = .ref T ∧ H T = none ∧ H' = upd H T (.tup [.str ⟨#[c]⟩, y, u]) ∧ x.cps[i]? = some c ∧ (∀ ys, SqT K H a ys → ys[i]? = some y) ∧ ∀ ys, SqT K H b ys → ys[i]? = some u,
    fun i H => ∃ ys zs : List V, SqT K H a ys ∧ SqT K H b zs ∧ i = min (min x.cps.size ys.length) zs.length⟩
theorem wr_sub3 {b z TI TO i1 i2 i3 : Addr} (m : b ∈ [z, TO, i1, i2, i3]) : b ∈ [z, TI, TO, i1, i2, i3] := by
  simp only [List.mem_cons, List.not_mem_nil, or_false] at m ⊢
  rcases m with rfl | rfl | rfl | rfl | rfl <;> simp
theorem turn_zipS3 {P : Program} {w : World} {K : PySem.W.Frag} {elts : List Expr} {kk : Nat} {tpos : Pos} {x : Str} {t : Tok} {a b z TI TO i1 i2 i3 : Addr} (S : ZipSep3 z TI TO i1 i2 i3 [i1] [i2, a] [i3, b]) (ne : a ≠ i2) (ne3 : b ≠ i3) :
    Turn P w K (.Tuple elts kk tpos) (ItS3 K x a b) [z, TI, TO, i1, i2, i3] z (fun i h => IsZip h z TI TO .none ∧ IsTupOf3 h TI (.ref i1) (.ref i2) (.ref i3) ∧ (∃ p q r, IsTupOf3 h TO p q r) ∧ h.IsStrIter i1 (strIterType x) x t i ∧ h.IsTupleIter i2 a i ∧ h.IsTupleIter i3 b i) where
  mem := by simp
  obj := by
    rintro i h ⟨hz, hI, ⟨p, q, r, hO⟩, ⟨o1, e1, _, d1⟩, ⟨o2, e2, _, d2⟩, ⟨o3, e3, _, d3⟩⟩ c hb
    simp only [List.mem_cons, List.not_mem_nil, or_false] at hb
    rcases hb with rfl | rfl | rfl | rfl | rfl | rfl
    · exact ⟨_, hz, fun v y => nomatch y⟩
    · exact ⟨_, hI, fun v y => nomatch y⟩
    · exact ⟨_, hO, fun v y => nomatch y⟩
    · exact ⟨o1, e1, fun v y => by rw [d1] at y; cases y⟩
    · exact ⟨o2, e2, fun v y => by rw [d2] at y; cases y⟩
    · exact ⟨o3, e3, fun v y => by rw [d3] at y; cases y⟩
  keep := by
    rintro i h h' ⟨hz, hI, ⟨p, q, r, hO⟩, ⟨o1, e1, r1⟩, h2, h3⟩ k
    exact ⟨k z (by simp) _ hz, k TI (by simp) _ hI, ⟨p, q, r, k TO (by simp) _ hO⟩, ⟨o1, k i1 (by simp) _ e1, r1⟩, h2.at fun o y => k i2 (by simp) o y, h3.at fun o y => k i3 (by simp) o y⟩
  item := by
    rintro X rfl rfl rfl hc i pins s σ H E I hf ⟨hz, hI, hO, h1, h2, h3⟩ ⟨ys, zs, hq, hq3, hi⟩
    obtain ⟨its, rv, tup, _⟩ := I.tuple hq
    obtain ⟨its3, rv3, tup3, _⟩ := I.tuple hq3
    have hl := rv.length
    have hl3 := rv3.length
    have G := GoesN.zip3 (elts := elts) (x1 := kk) (pos := tpos) S (Draws.text (A := X.A.in1) (prog := X.prog) (w := X.w) (I.ok.hd hc) i1 x t) (Draws.tuple (A := X.A.in1) (prog := X.prog) (w := X.w) (I.ok.hd hc) i2 a ne its.toArray) (Draws.tuple (A := X.A.in1) (prog := X.prog) (w := X.w) (I.ok.hd hc) i3 b ne3 its3.toArray)
    have olds : ∀ c ∈ [z, TI, TO, i1, i2, i3], c < s.heap.objs.size := by
      intro c hb
      obtain ⟨p, q, r, hO⟩ := hO
      obtain ⟨o1, e1, _⟩ := h1
      obtain ⟨o2, e2, _⟩ := h2
      obtain ⟨o3, e3, _⟩ := h3
      simp only [List.mem_cons, List.not_mem_nil, or_false] at hb
      rcases hb with rfl | rfl | rfl | rfl | rfl | rfl
      · exact Heap.lt_size hz
      · exact Heap.lt_size hI
      · exact Heap.lt_size hO
      · exact Heap.lt_size e1
      · exact Heap.lt_size e2
      · exact Heap.lt_size e3
    refine wpAny_mono (G.goes i s (fun v s2 => ∃ y H', Inv X pins σ H' s2 ∧ RelV y v ∧ (ItS3 X.K x a b).yld i H y H' ∧ (IsZip s2.heap z TI TO .none ∧ IsTupOf3 s2.heap TI (.ref i1) (.ref i2) (.ref i3) ∧ (∃ p q r, IsTupOf3 s2.heap TO p q r) ∧ s2.heap.IsStrIter i1 (strIterType x) x t (i + 1) ∧ s2.heap.IsTupleIter i2 a (i + 1) ∧ s2.heap.IsTupleIter i3 b (i + 1)) ∧ ∀ c ∈ [z, TI, TO, i1, i2, i3], H' c = none) E (by simp; omega) ⟨hz, hI, hO, h1, ⟨h2, tup⟩, ⟨h3, tup3⟩⟩ ?_) (fun _ _ h => h) (fun _ _ h => h)
    rintro v h' tk ⟨T, vx, vy, vu, rfl, hT, ⟨c, u, hx, rfl⟩, hy, hu, hTt⟩ ⟨hz', hI', hO', h1', ⟨h2', _⟩, ⟨h3', _⟩⟩ kept _
    have hT' : its[i]? = some vy := by simpa using hy
    have hT3 : its3[i]? = some vu := by simpa using hu
    obtain ⟨y, hyv, ry⟩ : ∃ y, ys[i]? = some y ∧ RelV y vy := by
      have hi2 : i < ys.length := by omega
      obtain ⟨u2, g1, g2⟩ := rv.get (List.getElem?_eq_getElem hi2)
      rw [hT'] at g1
      cases g1
      exact ⟨_, List.getElem?_eq_getElem hi2, g2⟩
    obtain ⟨y3, hyv3, ry3⟩ : ∃ y, zs[i]? = some y ∧ RelV y vu := by
      have hi2 : i < zs.length := by omega
      obtain ⟨u2, g1, g2⟩ := rv3.get (List.getElem?_eq_getElem hi2)
      rw [hT3] at g1
      cases g1
      exact ⟨_, List.getElem?_eq_getElem hi2, g2⟩
    have new : ObjOk X.prog X.w (upd H T (.tup [.str ⟨#[c]⟩, y, y3])) h' T (.tup [.str ⟨#[c]⟩, y, y3]) := ⟨(by show 3 ≤ sizeLine; rw [sizeLine_eq]; omega), [.str ⟨#[c]⟩ u, vy, vu], .cons ⟨u, rfl⟩ (.cons ry (.cons ry3 .nil)), hTt⟩
    have I1 := I.turnedNew (t' := tk) (ch := [z, TI, TO, i1, i2, i3]) (h' := h') (T := T) (fun c o hb e => kept c o (fun m => hb (wr_sub3 m)) e) hf hT new
    refine ⟨.ref T, _, I1, rfl, ⟨T, c, y, y3, rfl, I.hok.fresh hT, rfl, hx, fun zs hzs => by rw [I.tuple_inj hzs hq]; exact hyv, fun zs hzs => by rw [I.tuple_inj hzs hq3]; exact hyv3⟩, ⟨hz', hI', hO', h1', h2', h3'⟩, fun c hb => ?_⟩
    rw [upd_ne (Nat.ne_of_lt (Nat.lt_of_lt_of_le (olds c hb) hT))]
    exact (hf c hb).1
  done := by
    rintro X rfl rfl rfl hc i pins s σ H E I hf ⟨hz, hI, hO, h1, h2, h3⟩ ⟨ys, zs, hq, hq3, rfl⟩
    obtain ⟨its, rv, tup, _⟩ := I.tuple hq
    obtain ⟨its3, rv3, tup3, _⟩ := I.tuple hq3
    have hl := rv.length
    have hl3 := rv3.length
    have G := GoesN.zip3 (elts := elts) (x1 := kk) (pos := tpos) S (Draws.text (A := X.A.in1) (prog := X.prog) (w := X.w) (I.ok.hd hc) i1 x t) (Draws.tuple (A := X.A.in1) (prog := X.prog) (w := X.w) (I.ok.hd hc) i2 a ne its.toArray) (Draws.tuple (A := X.A.in1) (prog := X.prog) (w := X.w) (I.ok.hd hc) i3 b ne3 its3.toArray)
    have en : min (min x.cps.size its.toArray.size) its3.toArray.size = min (min x.cps.size ys.length) zs.length := by simp [hl, hl3]
    refine G.stops s (fun s1 => Inv X pins σ H s1) E (by rw [en]; exact ⟨hz, hI, hO, h1, ⟨h2, tup⟩, ⟨h3, tup3⟩⟩) fun h' tk kept _ => ?_
    exact I.turnedL (t' := tk) (ch := [z, TI, TO, i1, i2, i3]) (fun c o hb e => kept c o (fun m => hb (wr_sub3 m)) e) hf
  self := fun A i s Q E st h => wpAny_pyIter_zip st.1 h
def iZipS3 (K : PySem.W.Frag) (ta : TA) : TI := fun σ H R => ta σ H fun vs H1 => ∃ x a b ys zs, vs = [.str x, .ref a, .ref b] ∧ SqT K H1 a ys ∧ SqT K H1 b zs ∧ R (ItS3 K x a b) H1
theorem vals3 {us : List Value} {a b c : V} (r : Vals [a, b, c] us) : ∃ x y z, us = [x, y, z] ∧ RelV a x ∧ RelV b y ∧ RelV c z := by
  cases r with | cons r1 r =>
  cases r with | cons r2 r =>
  cases r with | cons r3 r =>
  cases r
  exact ⟨_, _, _, rfl, r1, r2, r3⟩
theorem vals3' {us : List Value} {vs : List V} (r : Vals vs us) (h : vs.length = 3) : us.length = 3 := by rw [← r.length]; exact h
theorem pi_zipS3 {X : Cx} {e e2 e3 : Expr} {ta : TA} {p pos tpos : Pos} {elts : List Expr} {kk : Nat} (hg : Gl X "zip") (hm : X.mg "zip" = none) (ha : PA X [e, e2, e3] ta)
    (hs : starEach [e, e2, e3] X.env = (false, eval e X.env) :: starEach [e2, e3] X.env := by rfl) (hpl : (backTo pos (starEach [e2, e3] X.env)).any (·.1) = false := by rfl) :
    PI X (.Tuple elts kk tpos) (.Call (.Name "zip" p) [e, e2, e3] [] pos) (iZipS3 X.K ta) := by
  constructor
  intro pins s σ H R I h
  refine Call_ (ld_blt I hg hm PyProof.Rows.boot_zip (PyProof.Rows.callWith_type1 (thn (ha.run pos pins s σ H _ I h) ?_) hs hpl))
  rintro us s1 ⟨vs, H1, I1, r1, x, a, b, ys, zs, rfl, hq, hq3, q⟩
  obtain ⟨u1, u2, u3, rfl, rx, ra, rb⟩ := vals3 r1
  obtain ⟨t, rfl⟩ := (show ∃ t, u1 = Value.str x t from rx)
  cases (show u2 = Value.ref a from ra)
  cases (show u3 = Value.ref b from rb)
  obtain ⟨its, rv, tup, _⟩ := I1.tuple hq
  obtain ⟨its3, rv3, tup3, _⟩ := I1.tuple hq3
  have hal : a < s1.heap.objs.size := by obtain ⟨o, ho, _⟩ := tup; exact Heap.lt_size ho
  have hbl : b < s1.heap.objs.size := by obtain ⟨o, ho, _⟩ := tup3; exact Heap.lt_size ho
  refine zip_begins3 (begins_text x t) (begins_tuple a its.toArray) (begins_tuple b its3.toArray) True.intro tup tup3 fun h' hz hI hO h1 h2 h3 hsz hk => wpAny_pyIter_zip hz ?_
  have I2 : Inv X pins σ H1 { s1 with heap := h' } := I1.kept (t' := s1.toks) hk
  have S := zip_sep3 (N := s1.heap.objs.size) (fp1 := []) (fp2 := [a]) (fp3 := [b]) (fun b hb => nomatch hb) (fun b hb => by rw [List.mem_singleton.mp hb]; exact hal) (fun c hb => by rw [List.mem_singleton.mp hb]; exact hbl)
  refine ⟨s1.heap.objs.size + 5, [s1.heap.objs.size + 5, s1.heap.objs.size + 3, s1.heap.objs.size + 4, s1.heap.objs.size, s1.heap.objs.size + 1, s1.heap.objs.size + 2], _, _, H1, rfl, I2, turn_zipS3 (t := t) S (Nat.ne_of_lt (Nat.lt_succ_of_lt hal)) (Nat.ne_of_lt (Nat.lt_succ_of_lt (Nat.lt_succ_of_lt hbl))), ⟨hz, hI, ⟨_, _, _, hO⟩, ⟨_, h1, rfl, rfl⟩, ⟨_, h2, rfl, rfl⟩, ⟨_, h3, rfl, rfl⟩⟩, fun b hb => ?_, q⟩
  have hle : s1.heap.objs.size ≤ b := by
    simp only [List.mem_cons, List.not_mem_nil, or_false] at hb
    rcases hb with rfl | rfl | rfl | rfl | rfl | rfl
    · exact Nat.le_add_right _ _
    · exact Nat.le_add_right _ _
    · exact Nat.le_add_right _ _
    · exact Nat.le_refl _
    · exact Nat.le_add_right _ _
    · exact Nat.le_add_right _ _
  exact I1.fpOk hle (I1.hok.fresh hle)
theorem k_zipS3 {K : PySem.W.Frag} {X : Cx} {e e2 e3 : Expr} {ta : TA} {p pos tpos : Pos} {elts : List Expr} {kk : Nat} (h : X.K = K) (hg : Gl X "zip") (hm : X.mg "zip" = none) (ha : PA X [e, e2, e3] ta)
    (hs : starEach [e, e2, e3] X.env = (false, eval e X.env) :: starEach [e2, e3] X.env := by rfl) (hpl : (backTo pos (starEach [e2, e3] X.env)).any (·.1) = false := by rfl) :
    PI X (.Tuple elts kk tpos) (.Call (.Name "zip" p) [e, e2, e3] [] pos) (iZipS3 K ta) := h ▸ pi_zipS3 hg hm ha hs hpl
def YTrip (xs ys zs : Nat → Option V) : Nat → Hp → V → Hp → Prop := fun i H v H' => ∃ T x y z, v = .ref T ∧ H T = none ∧ H' = upd H T (.tup [x, y, z]) ∧ xs i = some x ∧ ys i = some y ∧ zs i = some z
theorem walk_zipS3 {K : PySem.W.Frag} {x : Str} {a b : Addr} {ys zs : List V} : Walk (ItS3 K x a b) (min (min x.cps.size ys.length) zs.length) (fun H => SqT K H a ys ∧ SqT K H b zs) (YTrip (fun i => x.cps[i]?.map fun c => .str ⟨#[c]⟩) (fun i => ys[i]?) (fun i => zs[i]?)) :=
  ⟨fun i H hi q => ⟨ys, zs, q.1, q.2, hi⟩, fun H q => ⟨ys, zs, q.1, q.2, rfl⟩, fun i H v H' hi q y => by
    obtain ⟨T, c, y, u, h1, h2, h3, h4, h5, h6⟩ := y
    exact ⟨T, _, y, u, h1, h2, h3, by show (x.cps[i]?).map _ = _; rw [h4]; rfl, h5 ys q.1, h6 zs q.2⟩⟩
/-- the signs of a text with the data of two tuples -/
def zipS3 (z : Str) (ds es : List Dt) : List Dt := ((z.cps.toList.zip ds).zip es).map fun p => .tup [.str ⟨#[p.1.1]⟩, p.1.2, p.2]
theorem goesN_zipS3 {K : PySem.W.Frag} {σ : L2.St} {B : Hp} {tl : TA} {z : Str} {ds es : List Dt} (h : EvRA tl σ B [.str z, .tup ds, .tup es]) : GoesN (iZipS3 K tl) σ B (zipS3 z ds es) := fun H e Z zz => h H e _ fun vs B1 H1 n ra => by
  cases ra with | cons r1 ra =>
  cases ra with | cons r2 ra =>
  cases ra with | cons r3 ra =>
  cases ra
  cases r1
  obtain ⟨p, us, rfl, hp, ra⟩ := r2.tup_inv
  obtain ⟨p3, us3, rfl, hp3, ra3⟩ := r3.tup_inv
  refine ⟨z, p, p3, us, us3, rfl, st_of (n.sub _ _ hp), st_of (n.sub _ _ hp3), zz _ B1 H1 n ?_⟩
  have hl : (zipS3 z ds es).length = min (min z.cps.size us.length) us3.length := by
    unfold zipS3
    rw [List.length_map, List.length_zip, List.length_zip, ra.len, ra3.len, Array.length_toList]
  unfold LoopN
  rw [hl]
  refine (walk_zipS3 (K := K) (x := z) (a := p) (b := p3) (ys := us) (zs := us3)).mono (fun H' e' => ⟨st_of (e' _ _ hp), st_of (e' _ _ hp3)⟩) fun i H x H' hi e' y B' e1 e2 => ?_
  have i1 : i < z.cps.toList.length := by rw [Array.length_toList]; omega
  have i2 : i < ds.length := by rw [← ra.len]; omega
  have i3 : i < es.length := by rw [← ra3.len]; omega
  obtain ⟨T, q1, q2, q3, rfl, hT, rfl, g1, g2, g3⟩ := y
  have n2 := New.one (o := .tup [q1, q2, q3]) e2 hT
  refine ⟨_, .tup [.str ⟨#[z.cps.toList[i]]⟩, ds[i], es[i]], ?_, n2, .tup upd_same (.cons ?_ (.cons ?_ (.cons ?_ .nil)))⟩
  · unfold zipS3
    rw [List.getElem?_map, List.getElem?_zip_eq_some (z := ((z.cps.toList[i], ds[i]), es[i])) |>.mpr ⟨List.getElem?_zip_eq_some (z := (z.cps.toList[i], ds[i])) |>.mpr ⟨List.getElem?_eq_getElem i1, List.getElem?_eq_getElem i2⟩, List.getElem?_eq_getElem i3⟩]
    rfl
  · have q : z.cps[i]? = some z.cps.toList[i] := by rw [← Array.getElem?_toList]; exact List.getElem?_eq_getElem i1
    dsimp only at g1
    rw [q] at g1
    cases g1
    exact .str _
  · obtain ⟨d, hd, rd⟩ := ra.getV g2
    rw [List.getElem?_eq_getElem i2] at hd
    cases hd
    exact (rd.mono e1).mono n2.ext
  · obtain ⟨d, hd, rd⟩ := ra3.getV g3
    rw [List.getElem?_eq_getElem i3] at hd
    cases hd
    exact (rd.mono e1).mono n2.ext
end U

/-! ZV: layers as the laws lay them; lists of one's own that are handed on. -/
namespace U
open PySem L2
open Evl (Ex fresh_back sz_of sz_lt sq_of st_of rLenS rListS)
/-! ### 'xy'.index(axis), tuples added -/
def rSIdx : V → List V → Hp → VK → Prop := fun x xs H Q => ∃ a b i rest, x = .str a ∧ xs = [.str b] ∧ Builtin.Str.occurrences a b 0 a.length 1 = i :: rest ∧ Q (.int (i : Nat)) H
theorem k_sindex {X : Cx} : MtR X "str.index" rSIdx := mt_sindex
theorem occ_xy (b : Bool) : Builtin.Str.occurrences "xy" (axS b) 0 ("xy" : Str).length 1 = [if b = true then 0 else 1] := by cases b <;> decide +kernel
section
variable {K : PySem.W.Frag} {σ : L2.St} {B B' H : Hp} {ta te : TE} {b : Bool} {ds es : List Dt}
theorem ev_xyIdx (h : EvR te σ B (.str (axS b))) : EvR (tBM K "str" rSIdx (tC (.str "xy")) (tCons te tNil)) σ B (.int ((if b = true then 0 else 1 : Nat) : Int)) := fun H1 e Q q =>
  ⟨rfl, h H1 e _ fun v B1 H2 n rv => by
    cases rv
    exact ⟨"xy", axS b, _, [], rfl, rfl, occ_xy b, q _ B1 H2 n (.int _)⟩⟩
theorem k_catA {X : Cx} (h : X.K = K) : OpR X (binaryOp .Add) (rCatA K) := h ▸ op_catA
theorem rv_catA (hl : ds.length + es.length ≤ 100000) : RV (rCatA K) (.tup ds) (.tup es) (.tup (ds ++ es)) := fun B H1 v w e r1 r2 Q q => by
  obtain ⟨p, xs, rfl, hp, ra⟩ := r1.tup_inv
  obtain ⟨p2, ys, rfl, hp2, rb⟩ := r2.tup_inv
  refine ⟨p, p2, xs, ys, rfl, rfl, st_of (e _ _ hp), st_of (e _ _ hp2), by rw [ra.len, rb.len]; exact sz_of hl, fun hx => ?_, fun hx hy => ?_, fun hx hy p3 h3 => ?_⟩
  · have : ds = [] := List.length_eq_zero_iff.mp (by rw [← ra.len, hx]; rfl)
    subst this
    exact q _ B H1 (New.refl e) (.tup hp2 rb)
  · have : es = [] := List.length_eq_zero_iff.mp (by rw [← rb.len, hy]; rfl)
    subst this
    rw [List.append_nil] at q
    exact q _ B H1 (New.refl e) (.tup hp ra)
  · have N := New.one (o := .tup (xs ++ ys)) e h3
    exact q _ _ _ N (.tup upd_same ((ra.mono N.ext).append (rb.mono N.ext)))
end
/-! ### on the way, any lists changed -/
structure Lz {ι : Type} (Z : Sta ι) (B0 H0 B H : Hp) (i : ι) : Prop where
  n : NewG Z B0 H0 B H
  o : OutG Z B
  s : Z.S i H
section
variable {ι : Type} {Z : Sta ι} {K : PySem.W.Frag} {σ : L2.St} {B0 H0 B B1 H H1 H2 : Hp} {te : TE} {tu tw : TS} {t : TT} {i : ι} {n k : Nat} {d : Dt} {D : Ends} {b : Bool}
theorem Lz.e (l : Lz Z B0 H0 B H i) : Ex B H := l.n.sub
theorem lz_start (e : Ex B H) (o : OutG Z B) (s : Z.S i H) : Lz Z B H B H i := ⟨NewG.refl e, o, s⟩
theorem Lz.new (l : Lz Z B0 H0 B H i) (m : New B H B1 H1) : Lz Z B0 H0 B1 H1 i := ⟨NewG.trans l.s l.n m.g, m.g.out l.s l.o, Z.up i H H1 l.s m.heap⟩
theorem Lz.up (l : Lz Z B0 H0 B H i) (m : Up B H H2) : Lz Z B0 H0 B H2 i := l.new m.new
theorem Lz.newG {j : ι} (l : Lz Z B0 H0 B H i) (m : NewG Z B H B1 H1) (s : Z.S j H1) : Lz Z B0 H0 B1 H1 j := ⟨NewG.trans l.s l.n m, m.out l.s l.o, s⟩
theorem lz_asg (l : Lz Z B0 H0 B H i) (h : EvR te σ B d) (c : ∀ v B1 H1, Ex B B1 → Lz Z B0 H0 B1 H1 i → R B1 v d → D.nx (σ.set k (some v)) H1) : tAsg te (gName k) D σ H := h H l.e _ fun v B1 H1 m rv => c v B1 H1 m.ext (l.new m) rv
theorem lz_if (l : Lz Z B0 H0 B H i) (h : EvC t σ B b) (h1 : b = true → ∀ H1, Lz Z B0 H0 B H1 i → tu D σ H1) (h2 : b = false → ∀ H1, Lz Z B0 H0 B H1 i → tw D σ H1) : tIfS t tu tw D σ H := s_if l.e h (fun hb H1 m => h1 hb H1 (l.up m)) (fun hb H1 m => h2 hb H1 (l.up m))
end
/-- one list that is changed -/
def Zf (f : Addr) : Sta (List V) where
  ch a := a = f
  S acc H := H f = some (.lst acc)
  up _ _ _ h e := e _ _ h
  at_ _ H a h hc := by rw [hc, h]; exact fun z => nomatch z
  put _ H a u h hc := by rw [upd_ne (fun z => hc z.symm)]; exact h
section
variable {K : PySem.W.Frag} {σ : L2.St} {B0 H0 B B1 H H1 : Hp} {te : TE} {f g : Addr} {acc : List V} {n k : Nat} {d : Dt} {D : Ends}
/-- f.append(e) -/
theorem lz_app (l : Lz (Zf f) B0 H0 B H acc) (hv : σ[n]? = some (some (.ref f))) (h : EvR te σ B d) (hz : acc.length < 100000) (c : ∀ v B1 H1, Ex B B1 → Lz (Zf f) B0 H0 B1 H1 (acc ++ [v]) → R B1 v d → D.nx σ H1) : tDrop (tBM K "list" rAppend (tVar n) (tCons te tNil)) D σ H :=
  ⟨_, hv, .inl ⟨rfl, _, .inl (.inl l.s)⟩, h H l.e _ fun v B1 H1 m rv => by
    have l1 := l.new m
    have hb : B1 f = none := l1.o f rfl
    refine ⟨f, acc, v, rfl, rfl, l1.s, sz_lt hz, c v B1 _ m.ext ⟨?_, l1.o, upd_same⟩ rv⟩
    exact ⟨l1.n.ext, Evl.Ex.mut l1.n.sub hb, fun a u hc h => by rw [upd_ne hc]; exact l1.n.heap a u hc h, l1.n.fresh⟩⟩
/-- another new list is there: k = [] -/
theorem lz_new (l : Lz (Zf f) B0 H0 B H acc) (c : ∀ g H1, H0 g = none → B g = none → g ≠ f → H1 g = some (.lst []) → Lz (Zf f) B0 H0 B H1 acc → D.nx (σ.set k (some (.ref g))) H1) : tAsg (tLst tNil) (gName k) D σ H :=
  ⟨Nat.zero_le _, fun g hg => by
    have gf : g ≠ f := fun z => by have h : H f = some (.lst acc) := l.s; rw [← z, hg] at h; cases h
    have h0 : H0 g = none := by
      cases z : H0 g with
      | none => rfl
      | some u => have := l.n.heap g u gf z; rw [hg] at this; cases this
    refine c g _ h0 (fresh_back l.e hg) gf upd_same ⟨?_, l.o, by show upd H g _ f = _; rw [upd_ne gf.symm]; exact l.s⟩
    exact ⟨l.n.ext, Evl.Ex.mut l.n.sub (fresh_back l.e hg), fun a u hc h => by rw [upd_ne (fun z => by subst z; rw [h0] at h; cases h)]; exact l.n.heap a u hc h, l.n.fresh⟩⟩
/-- what changed g alone, g being new -/
theorem Lz.side (l : Lz (Zf f) B0 H0 B H acc) (h0 : H0 g = none) (gf : g ≠ f) (m : NewG (Zf g) B H B1 H1) : Lz (Zf f) B0 H0 B1 H1 acc := by
  have hs : H f = some (.lst acc) := l.s
  have keep : ∀ a u, a ≠ f → H0 a = some u → H1 a = some u := fun a u hc h => m.heap a u (fun (z : a = g) => by subst z; rw [h0] at h; cases h) (l.n.heap a u hc h)
  refine ⟨⟨l.n.ext.trans m.ext, m.sub, keep, fun a h1 h2 => ?_⟩, fun a ha => ?_, ?_⟩
  · by_cases hc : a = f
    · subst hc
      exact m.fresh a (l.o a rfl) (by rw [hs]; exact fun z => nomatch z)
    · refine m.fresh a (l.n.fresh a h1 h2) ?_
      cases z : H0 a with
      | none => exact absurd z h2
      | some u => rw [l.n.heap a u hc z]; exact fun z => nomatch z
  · have ha : a = f := ha
    subst ha
    exact m.fresh a (l.o a rfl) (by rw [hs]; exact fun z => nomatch z)
  · exact m.heap f _ (fun (z : f = g) => gf z.symm) hs
end
/-- all that changed is the new list f -/
theorem newF_new {B H B1 H1 : Hp} {f : Addr} {xs : List V} (m : NewG (Zf f) B (upd H f (.lst xs)) B1 H1) (h : H f = none) : New B H B1 H1 :=
  ⟨m.ext, m.sub, fun a u ha => m.heap a u (fun (z : a = f) => by subst z; rw [h] at ha; cases ha) (by rw [upd_ne (fun z => by subst z; rw [h] at ha; cases ha)]; exact ha), fun a h1 h2 => m.fresh a h1 (by
    by_cases z : a = f
    · subst z; exact absurd h h2
    · rw [upd_ne z]; exact h2)⟩
/-! ### layers -/
structure Pt where
  l : Int
  r : Int
  t : Int
  b : Int
def ePt (x : Pt) : Dt := eI [x.l, x.r, x.t, x.b]
def insP (x y : Pt) : Pt := ⟨if y.l > x.l then y.l else x.l, if y.r < x.r then y.r else x.r, if y.t > x.t then y.t else x.t, if y.b < x.b then y.b else x.b⟩
def numP (p q : List Int) (mv : Int × Int) (x : Bx) : Pt := ⟨cv p x.l + mv.1, cv p x.r + mv.1, cv q x.t + mv.2, cv q x.b + mv.2⟩
def inO (cl : Option Pt) (x : Pt) : Pt := match cl with
  | none => x
  | some c => insP x c
def ePo : Option Pt → Dt
  | none => .non
  | some x => ePt x
structure Ly where
  pt : Pt
  c : Int
  n : Int
def eLy (x : Ly) : Dt := .lst [ePt x.pt, .int x.c, .int x.n]
mutual
def cntS : Sm → Nat
  | .fill _ _ => 1
  | .clip _ ss => cntP ss
  | .move _ _ ss => cntP ss
  | .iff _ _ _ a b => cntP a + cntP b
def cntP : List Sm → Nat
  | [] => 0
  | s :: ss => cntS s + cntP ss
end
mutual
def lyS (p q : List Int) : Sm → Int × Int → Option Pt → Int → List Ly
  | .fill bx c, mv, cl, n => [⟨inO cl (numP p q mv bx), c, n⟩]
  | .clip bx ss, mv, cl, n => lyP p q ss mv (some (inO cl (numP p q mv bx))) n
  | .move dx dy ss, mv, cl, n => lyP p q ss (mv.1 + dx, mv.2 + dy) cl n
  | .iff ax c e a b, mv, cl, n => if cv (if ax = true then p else q) c < cv (if ax = true then p else q) e then lyP p q a mv cl n else lyP p q b mv cl (n + cntP a)
def lyP (p q : List Int) : List Sm → Int × Int → Option Pt → Int → List Ly
  | [], _, _, _ => []
  | s :: ss, mv, cl, n => lyS p q s mv cl n ++ lyP p q ss mv cl (n + cntS s)
end
theorem cntP_append : ∀ ss ts : List Sm, cntP (ss ++ ts) = cntP ss + cntP ts
  | [], ts => by rw [List.nil_append, cntP]; omega
  | s :: ss, ts => by rw [List.cons_append, cntP, cntP, cntP_append ss ts]; omega
theorem lyP_append (p q : List Int) : ∀ (ss ts : List Sm) (mv : Int × Int) (cl : Option Pt) (n : Int), lyP p q (ss ++ ts) mv cl n = lyP p q ss mv cl n ++ lyP p q ts mv cl (n + cntP ss)
  | [], ts, mv, cl, n => by rw [List.nil_append, lyP, List.nil_append, cntP]; congr 1; simp
  | s :: ss, ts, mv, cl, n => by
    rw [List.cons_append, lyP, lyP, lyP_append p q ss ts, List.append_assoc, cntP]
    congr 3
    push_cast
    omega
mutual
theorem lyS_len (p q : List Int) : ∀ (s : Sm) (mv : Int × Int) (cl : Option Pt) (n : Int), (lyS p q s mv cl n).length ≤ szS s
  | .fill bx c, mv, cl, n => by rw [lyS, szS]; exact Nat.le_refl _
  | .clip bx ss, mv, cl, n => by rw [lyS, szS]; have := lyP_len p q ss mv (some (inO cl (numP p q mv bx))) n; omega
  | .move dx dy ss, mv, cl, n => by rw [lyS, szS]; have := lyP_len p q ss (mv.1 + dx, mv.2 + dy) cl n; omega
  | .iff ax c e a b, mv, cl, n => by
    rw [lyS, szS]
    have := lyP_len p q a mv cl n
    have := lyP_len p q b mv cl (n + cntP a)
    generalize (if ax = true then p else q) = vs
    split <;> omega
theorem lyP_len (p q : List Int) : ∀ (ss : List Sm) (mv : Int × Int) (cl : Option Pt) (n : Int), (lyP p q ss mv cl n).length ≤ szP ss
  | [], mv, cl, n => by rw [lyP, szP]; exact Nat.le_refl _
  | s :: ss, mv, cl, n => by rw [lyP, szP, List.length_append]; have := lyS_len p q s mv cl n; have := lyP_len p q ss mv cl (n + cntS s); omega
end
/-- a promise: the layers are put behind what stands in found, the number behind the last fill is told -/
def spLay (n : Nat) : Sp := fun vs H Q _ => ∃ (B : Hp) (f : Addr) (acc : List V) (w0 w1 w2 w3 : V) (a b : Int) (ss : List Sm) (p q : List Int) (mv : Int × Int) (cl : Option Pt) (num : Int),
  vs = [w0, w1, w2, w3, .ref f, .int num] ∧ Ex B H ∧ B f = none ∧ H f = some (.lst acc) ∧ R B w0 (.tup (ePg ss)) ∧ R B w1 (eSet p q) ∧ R B w2 (eFr mv.1 mv.2) ∧ R B w3 (ePo cl) ∧ okP a b n ss ∧ (p.length : Int) = a ∧ (q.length : Int) = b ∧ szP ss ≤ 1000 ∧ acc.length ≤ 50000 - szP ss ∧
  ∀ B' H' vs', NewG (Zf f) B H B' H' → H' f = some (.lst (acc ++ vs')) → RA B' vs' ((lyP p q ss mv cl num).map eLy) → Q (.int (num + cntP ss)) H'
/-- what gives the list f -/
def GivesF (t4 : TE) (σ : L2.St) (B : Hp) (f : Addr) : Prop := ∀ H1, Ex B H1 → ∀ Q : VK, (∀ H2, Ex H1 H2 → Q (.ref f) H2) → t4 σ H1 Q
section
variable {K : PySem.W.Frag} {σ : L2.St} {B0 H0 B B1 H H1 : Hp} {t0 t1 t2 t3 t4 tn : TE} {f g : Addr} {acc : List V} {n k : Nat} {d : Dt} {D : Ends} {E : XK} {ss : List Sm} {p q : List Int} {mv : Int × Int} {cl : Option Pt} {num a b : Int} {Q : VK}
theorem gives_v (hv : σ[n]? = some (some (.ref f))) : GivesF (tVar n) σ B f := fun H1 e Q q => ⟨_, hv, q H1 (Ex.refl _)⟩
theorem gives_if {t : TT} {c : Bool} {n m : Nat} (h : EvC t σ B c) (h1 : c = true → σ[n]? = some (some (.ref f))) (h2 : c = false → σ[m]? = some (some (.ref f))) : GivesF (tIf t (tVar n) (tVar m)) σ B f := fun H1 e Q q => h H1 e _ fun H2 e2 => by
  cases c with
  | true => exact ⟨_, h1 rfl, q H2 e2⟩
  | false => exact ⟨_, h2 rfl, q H2 e2⟩
theorem lay_go (e : Ex B H) (o : B f = none) (s : H f = some (.lst acc)) (h0 : EvR t0 σ B (.tup (ePg ss))) (h1 : EvR t1 σ B (eSet p q)) (h2 : EvR t2 σ B (eFr mv.1 mv.2)) (h3 : EvR t3 σ B (ePo cl)) (h4 : GivesF t4 σ B f) (h5 : EvR tn σ B (.int num)) (ok : okP a b n ss) (ha : (p.length : Int) = a) (hb : (q.length : Int) = b) (hs : szP ss ≤ 1000) (hl : acc.length ≤ 50000 - szP ss)
    (c : ∀ B1 H1 vs', NewG (Zf f) B H B1 H1 → H1 f = some (.lst (acc ++ vs')) → RA B1 vs' ((lyP p q ss mv cl num).map eLy) → Q (.int (num + cntP ss)) H1) : tCall (spLay n) [] E (tCons t0 (tCons t1 (tCons t2 (tCons t3 (tCons t4 (tCons tn tNil)))))) σ H Q := by
  have z0 : Lz (Zf f) B H B H acc := lz_start e (fun a ha => by rw [ha]; exact o) s
  refine h0 H e _ fun v0 B1 H1 n1 r0 => (h1.mono n1.ext) H1 n1.sub _ fun v1 B2 H2 n2 r1 => ((h2.mono n1.ext).mono n2.ext) H2 n2.sub _ fun v2 B3 H3 n3 r2 => (((h3.mono n1.ext).mono n2.ext).mono n3.ext) H3 n3.sub _ fun v3 B4 H4 n4 r3 => ?_
  have N := (((n1.trans n2).trans n3).trans n4)
  refine h4 H4 (N.ext.trans N.sub) _ fun H5 e5 => ?_
  have n5 : New B4 H4 B4 H5 := New.grow (N.sub.trans e5) e5 N.sub
  refine (h5.mono (N.ext)) H5 n5.sub _ fun v5 B6 H6 n6 r5 => ?_
  cases r5
  have M := (N.trans n5).trans n6
  have z6 := z0.new M
  refine ⟨B6, f, acc, v0, v1, v2, v3, a, b, ss, p, q, mv, cl, num, rfl, M.sub, z6.o f rfl, z6.s, (((r0.mono n2.ext).mono n3.ext).mono n4.ext).mono n6.ext, ((r1.mono n3.ext).mono n4.ext).mono n6.ext, (r2.mono n4.ext).mono n6.ext, r3.mono n6.ext, ok, ha, hb, hs, hl, fun B' H' vs' m h ra => c B' H' vs' (NewG.trans z6.s z6.n m) h ra⟩
end
end U

set_option maxHeartbeats 2000000
/-! ZW: list(zip(text, tuple)). -/
namespace U
open PySem PySem.Spec PyProof.Rows L2
open Evl (Ex)
section
variable {prog : Program} {w : World} {A : Around} {E : Value → Shared → Prop} {s : Shared} {z TI TO i1 i2 : Addr} {fp1 fp2 : List Addr} {n1 n2 i : Nat} {P1 P2 : Nat → Value → Prop} {St1 St2 : Nat → Heap → Prop}
theorem zipH_item {T : Addr} {f : Bool} {oT : Obj} {Q : Value → Shared → Prop} (S : ZipSep2 z TI TO i1 i2 fp1 fp2) (D1 : Draws prog w A i1 fp1 n1 P1 St1) (D2 : Draws prog w A i2 fp2 n2 P2 St2)
    (hz : IsZipHeld s.heap z TI TO T f) (hT : s.heap.get? T = some oT) (hTI : IsTupOf2 s.heap TI (.ref i1) (.ref i2)) (st1 : St1 i s.heap) (st2 : St2 i s.heap) (hlt1 : i < n1) (hlt2 : i < n2)
    (hQ : ∀ x1 x2 h' tk, P1 i x1 → P2 i x2 → IsZipHeld h' z TI TO T true → St1 (i + 1) h' → St2 (i + 1) h' → IsTupOf2 h' s.heap.objs.size x1 x2 → h'.objs.size = s.heap.objs.size + 1 →
      (∀ c o, c ≠ z → c ≠ i1 → c ≠ i2 → s.heap.get? c = some o → h'.get? c = some o) → Q (.ref s.heap.objs.size) { s with heap := h', toks := tk }) :
    wpAny (model prog w) A (Builtin.«zip.__next__» ⟨[.ref z], []⟩) (fun fin s' => ∃ v, fin = .done (.ret v) ∧ Q v s') E s := by
  obtain ⟨hp, g, d, tk0, os⟩ := s
  show wpAny _ _ (field (.ref z) 2 >>= _) _ _ _
  refine wpAny_bind (wpAny_field hz rfl (x := .bool false) rfl ?_)
  show wpAny _ _ (field (.ref z) 3 >>= _) _ _ _
  refine wpAny_bind (wpAny_field hz rfl (x := .ref TI) rfl ?_)
  refine wpAny_bind (wpAny_seqItems hTI rfl ?_)
  show wpAny _ _ (Builtin.SmallTypes.ownedTupleIsFree (.ref z) >>= _) _ _ _
  refine wpAny_bind (wpAny_tupleHeld_zip hz hT fun h₁ hz₁ hs₁ => ?_)
  simp only [Bool.false_eq_true, if_false]
  refine wpAny_bind ?_
  rw [← Array.forIn_toList]
  simp only [List.forIn_cons, List.forIn_nil]
  refine wpAny_bind (wpAny_bind (wpAny_holding ?_))
  show wpAny _ _ (Builtin.SmallTypes.nextOf (.ref i1) >>= _) _ _ ⟨h₁, g, d, tk0, os⟩
  refine wpAny_bind (D1.item i _ _ _ hlt1 (D1.over st1 hs₁ S.zf1) fun x1 h₂ tk1 hx1 sn1 hs₂ => wpAny_pure ?_)
  replace hs₂ : Heap.SameBut i1 h₁ h₂ := hs₂
  refine wpAny_pure ?_
  refine wpAny_bind (wpAny_bind (wpAny_holding ?_))
  show wpAny _ _ (Builtin.SmallTypes.nextOf (.ref i2) >>= _) _ _ ⟨h₂, g, d, tk1, os⟩
  refine wpAny_bind (D2.item i _ _ _ hlt2 (D2.over (D2.over st2 hs₁ S.zf2) hs₂ S.sep1_2) fun x2 h₃ tk2 hx2 sn2 hs₃ => wpAny_pure ?_)
  replace hs₃ : Heap.SameBut i2 h₂ h₃ := hs₃
  refine wpAny_pure (wpAny_pure ?_)
  show wpAny _ _ (newTuple [x1, x2] >>= _) _ _ ⟨h₃, g, d, tk2, os⟩
  refine wpAny_bind (wpAny_newTuple ?_)
  have hsz : h₃.objs.size = hp.objs.size := by rw [hs₃.1, hs₂.1, hs₁.1]
  have hz₃ : IsZipHeld h₃ z TI TO T true := hs₃.extBut _ _ S.zi2 (hs₂.extBut _ _ S.zi1 hz₁)
  have hk : ∀ c o, c ≠ z → c ≠ i1 → c ≠ i2 → hp.get? c = some o → h₃.get? c = some o := fun c o c1 c2 c3 e => hs₃.extBut _ _ c3 (hs₂.extBut _ _ c2 (hs₁.extBut _ _ c1 e))
  have sn1' : St1 (i + 1) h₃ := D1.over sn1 hs₃ S.sep2_1
  refine wpAny_pure ⟨_, rfl, ?_⟩
  show Q (.ref h₃.objs.size) ⟨h₃.push { cls := .type "tuple", data := .seq #[x1, x2] }, g, d, tk2, os⟩
  have hpr : IsTupOf2 (h₃.push { cls := .type "tuple", data := .seq #[x1, x2] }) h₃.objs.size x1 x2 := Heap.get?_push_size _ rfl
  have hz4 : (h₃.push { cls := .type "tuple", data := .seq #[x1, x2] }).objs.size = h₃.objs.size + 1 := Heap.size_push ..
  rw [hsz] at hpr hz4 ⊢
  exact hQ x1 x2 _ tk2 hx1 hx2 (Heap.get?_push_of_some _ hz₃) (D1.frame _ _ _ sn1' fun b _ o e => Heap.get?_push_of_some _ e) (D2.frame _ _ _ sn2 fun b _ o e => Heap.get?_push_of_some _ e) hpr hz4 fun c o c1 c2 c3 e => Heap.get?_push_of_some _ (hk c o c1 c2 c3 e)
theorem zipH_end {T : Addr} {f : Bool} {oT : Obj} {Q : Fin → Shared → Prop} (S : ZipSep2 z TI TO i1 i2 fp1 fp2) (D1 : Draws prog w A i1 fp1 n1 P1 St1)
    (hz : IsZipHeld s.heap z TI TO T f) (hT : s.heap.get? T = some oT) (hTI : IsTupOf2 s.heap TI (.ref i1) (.ref i2)) (st1 : St1 n1 s.heap)
    (hE : ∀ h' e, (∀ c o, c ≠ z → c ≠ i1 → c ≠ i2 → s.heap.get? c = some o → h'.get? c = some o) → (∃ o, h'.get? e = some o ∧ o.cls = .type "StopIteration") → E (.ref e) { s with heap := h' }) :
    wpAny (model prog w) A (Builtin.«zip.__next__» ⟨[.ref z], []⟩) Q E s := by
  show wpAny _ _ (field (.ref z) 2 >>= _) _ _ _
  refine wpAny_bind (wpAny_field hz rfl (x := .bool false) rfl ?_)
  show wpAny _ _ (field (.ref z) 3 >>= _) _ _ _
  refine wpAny_bind (wpAny_field hz rfl (x := .ref TI) rfl ?_)
  refine wpAny_bind (wpAny_seqItems hTI rfl ?_)
  show wpAny _ _ (Builtin.SmallTypes.ownedTupleIsFree (.ref z) >>= _) _ _ _
  refine wpAny_bind (wpAny_tupleHeld_zip hz hT fun h₁ hz₁ hs₁ => ?_)
  simp only [Bool.false_eq_true, if_false]
  refine wpAny_bind ?_
  rw [← Array.forIn_toList]
  simp only [List.forIn_cons, List.forIn_nil]
  refine wpAny_bind (wpAny_bind (wpAny_holding ?_))
  show wpAny _ _ (Builtin.SmallTypes.nextOf (.ref i1) >>= _) _ _ _
  refine wpAny_bind (D1.done { s with heap := h₁ } _ _ (D1.over st1 hs₁ S.zf1) fun h₂ e hs₂ he => ?_)
  exact hE h₂ e (fun c o c1 c2 _ x => hs₂ _ _ c2 (hs₁.extBut _ _ c1 x)) he
theorem next_zipH_item {T : Addr} {f : Bool} {oT : Obj} {Q : Option Value → Shared → Prop} (S : ZipSep2 z TI TO i1 i2 fp1 fp2) (D1 : Draws prog w A.in1 i1 fp1 n1 P1 St1) (D2 : Draws prog w A.in1 i2 fp2 n2 P2 St2)
    (hz : IsZipHeld s.heap z TI TO T f) (hT : s.heap.get? T = some oT) (hTI : IsTupOf2 s.heap TI (.ref i1) (.ref i2)) (st1 : St1 i s.heap) (st2 : St2 i s.heap) (hlt1 : i < n1) (hlt2 : i < n2)
    (hQ : ∀ x1 x2 h' tk, P1 i x1 → P2 i x2 → IsZipHeld h' z TI TO T true → St1 (i + 1) h' → St2 (i + 1) h' → IsTupOf2 h' s.heap.objs.size x1 x2 → h'.objs.size = s.heap.objs.size + 1 →
      (∀ c o, c ≠ z → c ≠ i1 → c ≠ i2 → s.heap.get? c = some o → h'.get? c = some o) → Q (some (.ref s.heap.objs.size)) { s with heap := h', toks := tk }) :
    wpAny (model prog w) A (pyNext (.ref z)) Q E s := by
  have hTy : s.TypeIs (.ref z) "zip" := ⟨_, hz, rfl⟩
  unfold pyNext
  exact wpAny_bind (wpAny_attempt (wpAny_callSpecial?_slot (name := Str.ofString "__next__") hTy F.slot_zip_next
    (wpAny_call_entry F.slot_zip_next hTy F.entry_zip_next
      (zipH_item S D1 D2 hz hT hTI st1 st2 hlt1 hlt2 fun x1 x2 h' tk a1 a2 a3 a4 a5 a6 a7 a8 => wpAny_pure (hQ x1 x2 h' tk a1 a2 a3 a4 a5 a6 a7 a8)) (F.args_zip_next_1 _))))
theorem next_zipH_end {T : Addr} {f : Bool} {oT : Obj} {Q : Option Value → Shared → Prop} (S : ZipSep2 z TI TO i1 i2 fp1 fp2) (D1 : Draws prog w A.in1 i1 fp1 n1 P1 St1)
    (hz : IsZipHeld s.heap z TI TO T f) (hT : s.heap.get? T = some oT) (hTI : IsTupOf2 s.heap TI (.ref i1) (.ref i2)) (st1 : St1 n1 s.heap)
    (hQ : ∀ h', (∀ c o, c ≠ z → c ≠ i1 → c ≠ i2 → s.heap.get? c = some o → h'.get? c = some o) → Q none { s with heap := h' }) :
    wpAny (model prog w) A (pyNext (.ref z)) Q E s := by
  have hTy : s.TypeIs (.ref z) "zip" := ⟨_, hz, rfl⟩
  unfold pyNext
  refine wpAny_bind (wpAny_attempt (wpAny_callSpecial?_slot (name := Str.ofString "__next__") hTy F.slot_zip_next
    (wpAny_call_entry F.slot_zip_next hTy F.entry_zip_next (zipH_end S D1 hz hT hTI st1 fun h' e hk he => ?_) (F.args_zip_next_1 _))))
  obtain ⟨o, ho, hc⟩ := he
  refine wpAny_bind (wpAny_isInstance (T := "StopIteration") (b := true) ⟨o, ho, hc⟩ isSubtype_stop ?_)
  exact wpAny_pure (hQ _ hk)
end
/-! ### the loop -/
structure ZL (h0 : Heap) (z TI TO i1 i2 S : Addr) (P1 P2 : Nat → Value → Prop) (St1 St2 : Nat → Heap → Prop) (h : Heap) (i : Nat) (Ts : List Addr) (cc : Nat) : Prop where
  lis : LisAt h S (Ts.map Value.ref) cc
  len : Ts.length = i
  tup : ∀ (j : Nat) (T : Addr), Ts[j]? = some T → ∃ x y, P1 j x ∧ P2 j y ∧ IsTupOf2 h T x y
  new : ∀ T ∈ Ts, h0.objs.size ≤ T ∧ T < h.objs.size
  nd : Ts.Nodup
  kept : ∀ b o, b ≠ S → b ≠ z → b ≠ TO → b ≠ i1 → b ≠ i2 → h0.get? b = some o → h.get? b = some o
  zs : (i = 0 ∧ IsZip h z TI TO .none ∧ ∃ a1 a2, IsTupOf2 h TO a1 a2) ∨ ∃ T f, Ts[0]? = some T ∧ IsZipHeld h z TI TO T f
  ti : IsTupOf2 h TI (.ref i1) (.ref i2)
  st1 : St1 i h
  st2 : St2 i h
structure ZLs (h0 : Heap) (z TI TO i1 i2 S : Addr) (fp1 fp2 : List Addr) : Prop where
  sep : ZipSep2 z TI TO i1 i2 fp1 fp2
  Sz : S ≠ z
  SI : S ≠ TI
  SO : S ≠ TO
  S1 : S ∉ fp1
  S2 : S ∉ fp2
  oz : z < h0.objs.size
  oI : TI < h0.objs.size
  oO : TO < h0.objs.size
  oS : S < h0.objs.size
  o1 : i1 < h0.objs.size
  o2 : i2 < h0.objs.size
section
variable {prog : Program} {w : World} {A : Around} {h0 : Heap} {z TI TO i1 i2 S : Addr} {fp1 fp2 : List Addr} {n : Nat} {P1 P2 : Nat → Value → Prop} {St1 St2 : Nat → Heap → Prop}
theorem zl_loop (L : ZLs h0 z TI TO i1 i2 S fp1 fp2) (D1 : Draws prog w A.in1.in1 i1 fp1 n P1 St1) (D2 : Draws prog w A.in1.in1 i2 fp2 n P2 St2) (hn : 0 < n) (hn2 : n ≤ 1000) (res : Value) {R : Result → Shared → Prop} :
    ∀ (k i : Nat) (s : Shared) (Ts : List Addr) (cc : Nat), n - i = k → i ≤ n → ZL h0 z TI TO i1 i2 S P1 P2 St1 St2 s.heap i Ts cc → h0.objs.size ≤ s.heap.objs.size →
      (∀ h' tk Ts' cc', ZL h0 z TI TO i1 i2 S P1 P2 St1 St2 h' n Ts' cc' ∨ (∃ h1, ZL h0 z TI TO i1 i2 S P1 P2 St1 St2 h1 n Ts' cc' ∧ ∀ c o, c ≠ z → c ≠ i1 → c ≠ i2 → h1.get? c = some o → h'.get? c = some o) → R (.ok (.ret res)) { s with heap := h', toks := tk }) → codeAny (model prog w) A (.builtin "list.extend.loop" ⟨[.ref S, .ref z, res], []⟩) R s := by
  intro k
  have Si1 : S ≠ i1 := fun e => L.S1 (e ▸ L.sep.mem1)
  have Si2 : S ≠ i2 := fun e => L.S2 (e ▸ L.sep.mem2)
  induction k with
  | zero =>
    intro i s Ts cc hk hi C big hR
    have e : i = n := by omega
    subst e
    refine codeAny_builtin F.entry_extend_loop ?_
    rw [Around.under_plainId F.plain_extend_loop _]
    refine (show wpAny _ A.in1 (pyNext (.ref z) >>= _) _ _ s from wpAny_bind ?_)
    rcases C.zs with ⟨h, _⟩ | ⟨T, f, hT, hz⟩
    · omega
    · obtain ⟨x, y, _, _, ht⟩ := C.tup 0 T hT
      exact next_zipH_end L.sep D1 hz ht C.ti C.st1 fun h' hk => wpAny_pure (hR h' s.toks Ts cc (.inr ⟨s.heap, C, hk⟩))
  | succ k ih =>
    intro i s Ts cc hk hi C big hR
    have hlt : i < n := by omega
    refine codeAny_builtin F.entry_extend_loop ?_
    rw [Around.under_plainId F.plain_extend_loop _]
    refine (show wpAny _ A.in1 (pyNext (.ref z) >>= _) _ _ s from wpAny_bind ?_)
    have behind : ∀ (h' : Heap) (tk : Tok) (x1 x2 : Value) (T0 : Addr) (f : Bool), P1 i x1 → P2 i x2 → (Ts ++ [s.heap.objs.size])[0]? = some T0 → IsZipHeld h' z TI TO T0 f → St1 (i + 1) h' → St2 (i + 1) h' → IsTupOf2 h' s.heap.objs.size x1 x2 → h'.objs.size = s.heap.objs.size + 1 →
        (∀ c o, c ≠ z → c ≠ TO → c ≠ i1 → c ≠ i2 → s.heap.get? c = some o → h'.get? c = some o) → wpAny (model prog w) A.in1 (do
          updateSeq S (·.push (.ref s.heap.objs.size))
          again (.builtin "list.extend.loop" ⟨[.ref S, .ref z, res], []⟩)) (fun fin s' => match fin with
            | .done f => R (.ok f) s'
            | .again c' => c'.quiet = true ∧ codeAny (model prog w) A c' R s') (fun e s' => R (.error e) s') { s with heap := h', toks := tk } := by
      intro h' tk x1 x2 T0 f hx1 hx2 hT0 hz' s1' s2' tupT hsz kept
      have hS' : LisAt h' S (Ts.map Value.ref) cc := kept S _ L.Sz L.SO Si1 Si2 C.lis
      have hTs : (Ts.map Value.ref).length ≤ 1000 := by rw [List.length_map, C.len]; omega
      refine wpAny_bind (wpAny_updateSeq hS' rfl (wpAny_pure ⟨plainId_quiet F.plain_extend_loop _, ?_⟩) (by rw [List.size_toArray, sizeLine_eq]; omega) (by rw [Array.size_push, List.size_toArray, sizeLine_eq]; omega))
      have sb : Heap.SameBut S h' (h'.update S (Obj.mapSeq fun a => a.push (.ref s.heap.objs.size))) := Heap.SameBut.update ..
      have Sne : S ≠ s.heap.objs.size := Nat.ne_of_lt (Nat.lt_of_lt_of_le L.oS big)
      have far : ∀ T ∈ Ts, T ≠ z ∧ T ≠ TO ∧ T ≠ i1 ∧ T ≠ i2 ∧ T ≠ S := fun T hT => by
        have h1 := (C.new T hT).1
        exact ⟨far_ne L.oz h1, far_ne L.oO h1, far_ne L.o1 h1, far_ne L.o2 h1, far_ne L.oS h1⟩
      obtain ⟨cc', hL⟩ : ∃ cc', LisAt (h'.update S (Obj.mapSeq fun a => a.push (.ref s.heap.objs.size))) S ((Ts ++ [s.heap.objs.size]).map Value.ref) cc' := by
        have up := Heap.get?_update_self (Obj.mapSeq fun a => a.push (.ref s.heap.objs.size)) hS' rfl
        obtain ⟨c2, e⟩ : ∃ c2, Obj.mapSeq (fun a => a.push (Value.ref s.heap.objs.size)) { cls := .type "list", dict := none, data := .seq (Ts.map Value.ref).toArray cc, slots := #[] } = { cls := .type "list", dict := none, data := .seq ((Ts.map Value.ref).toArray.push (.ref s.heap.objs.size)) c2, slots := #[] } := ⟨_, rfl⟩
        rw [e] at up
        refine ⟨c2, up.trans ?_⟩
        rw [List.map_append]
        simp
      refine ih (i + 1) _ (Ts ++ [s.heap.objs.size]) cc' (by omega) hlt ⟨hL, by rw [List.length_append, C.len]; rfl, fun j T hT => ?_, fun T hT => ?_, ?_, fun b o h1 h2 h3 h4 h5 e => (sb.2 b h1).trans (kept b o h2 h3 h4 h5 (C.kept b o h1 h2 h3 h4 h5 e)), .inr ⟨T0, f, hT0, (sb.2 z L.Sz.symm).trans hz'⟩, (sb.2 TI L.SI.symm).trans (kept TI _ L.sep.TIz L.sep.TITO L.sep.TIi1 L.sep.TIi2 C.ti), D1.over s1' sb L.S1, D2.over s2' sb L.S2⟩ (by rw [sb.1, hsz]; omega) (fun h'' tk' Ts' cc' B => hR h'' tk' Ts' cc' B)
      · rw [List.getElem?_append] at hT
        split at hT
        · have hm := List.mem_of_getElem? hT
          obtain ⟨g1, g2, g3, g4, g5⟩ := far T hm
          obtain ⟨x, y, p1, p2, ht⟩ := C.tup j T hT
          exact ⟨x, y, p1, p2, (sb.2 T g5).trans (kept T _ g1 g2 g3 g4 ht)⟩
        · rename_i hj
          have hj2 : j - Ts.length = 0 := by
            cases e : j - Ts.length with
            | zero => rfl
            | succ q => rw [e] at hT; cases hT
          rw [hj2] at hT
          cases hT
          have e : j = i := by have := C.len; omega
          subst e
          exact ⟨x1, x2, hx1, hx2, (sb.2 _ Sne.symm).trans tupT⟩
      · rcases List.mem_append.mp hT with hT | hT
        · have := C.new T hT
          exact ⟨this.1, Nat.lt_of_lt_of_le this.2 (by rw [sb.1, hsz]; exact Nat.le_succ _)⟩
        · rw [List.mem_singleton.mp hT]
          exact ⟨big, by rw [sb.1, hsz]; exact Nat.lt_succ_self _⟩
      · refine List.nodup_append.mpr ⟨C.nd, by simp, fun a ha b hb => ?_⟩
        rw [List.mem_singleton.mp hb]
        exact Nat.ne_of_lt (C.new a ha).2
    rcases C.zs with ⟨h, hz, a1, a2, hTO⟩ | ⟨T, f, hT, hz⟩
    · have hTs : Ts = [] := List.length_eq_zero_iff.mp (by rw [C.len, h])
      subst hTs
      refine wpAny_pyNext_zipD2_item (A := A.in1) L.sep D1 D2 hz C.ti hTO C.st1 C.st2 hlt hlt fun x1 x2 h' tk p1 p2 z' _ s1' s2' t' hsz kept => ?_
      exact behind h' tk x1 x2 _ false p1 p2 rfl z' s1' s2' t' hsz kept
    · obtain ⟨x, y, _, _, ht⟩ := C.tup 0 T hT
      refine next_zipH_item (A := A.in1) L.sep D1 D2 hz ht C.ti C.st1 C.st2 hlt hlt fun x1 x2 h' tk p1 p2 z' s1' s2' t' hsz kept => ?_
      exact behind h' tk x1 x2 T true p1 p2 (by rw [List.getElem?_append_left (List.getElem?_eq_some_iff.mp hT).1]; exact hT) z' s1' s2' t' hsz fun c o h1 _ h2 h3 e => kept c o h1 h2 h3 e
theorem call_list_zip2 {Q : Value → Shared → Prop} {Z : Value → Shared → Prop} {s : Shared} (hz : ZRec s.heap z TI TO .none (.bool false))
    (go : ∀ (R : Result → Shared → Prop) h1 cc, Heap.SameBut s.heap.objs.size (s.heap.push { cls := .type "list", data := .seq #[] }) h1 → LisAt h1 s.heap.objs.size [] cc → (∀ h2 tk, Q (.ref s.heap.objs.size) { s with heap := h2, toks := tk } → R (.ok (.ret .none)) { s with heap := h2, toks := tk }) →
      codeAny (model prog w) A.in1 (.builtin "list.extend.loop" ⟨[.ref s.heap.objs.size, .ref z, .none], []⟩) R { s with heap := h1 }) :
    wpAny (model prog w) A (call (.type "list") [.ref z]) Q Z s := by
  have zlt : z < s.heap.objs.size := Heap.lt_size hz
  refine callType_codes (Q₁ := fun obj s1 => obj = .ref s.heap.objs.size ∧ s1 = { s with heap := s.heap.push { cls := .type "list", data := .seq #[] } }) F.called_list (F.typeCall_list_1 _) F.entry_list_init (code_list_new _ ⟨rfl, rfl⟩) fun obj s1 h1 => ?_
  obtain ⟨rfl, rfl⟩ := h1
  have hS : (s.heap.push { cls := .type "list", data := .seq #[] }).get? s.heap.objs.size = some { cls := .type "list", data := .seq #[] } := Heap.get?_push_size _ rfl
  refine ⟨⟨_, hS, rfl⟩, F.args_list_init_2 _ _, list_init_zip (s := { s with heap := s.heap.push { cls := .type "list", data := .seq #[] } }) (Heap.get?_push_of_some _ hz) (Nat.ne_of_gt zlt) hS fun h1 cc sb hl => ?_⟩
  exact go _ h1 cc sb hl fun h2 tk q => ⟨rfl, q⟩
end
/-! ### the rule -/
def colS (x : Str) (ys : List V) (j : Nat) : List V := [.str ⟨#[x.cps.toList.getD j 0]⟩, ys.getD j .non]
def tLzS (K : PySem.W.Frag) (ta : TA) : TE := fun σ H Q => ta σ H fun vs H1 => ∃ (x : Str) (a : Addr) (ys : List V), vs = [.str x, .ref a] ∧ SqT K H1 a ys ∧ x.cps.size = ys.length ∧ 0 < ys.length ∧ ys.length ≤ 1000 ∧
  ∀ (Ts : List Addr) (S : Addr), Ts.length = ys.length → Ts.Nodup → (∀ T ∈ Ts, H1 T = none) → H1 S = none → S ∉ Ts → Q (.ref S) (upd (trk (colS x ys) Ts 0 H1) S (.lst (Ts.map V.ref)))
theorem pe_listZipS {X : Cx} {e e2 : Expr} {ta : TA} {p p2 pos pos2 : Pos} (hc : X.calm = true) (hgl : Gl X "list") (hml : X.mg "list" = none) (hg : Gl X "zip") (hm : X.mg "zip" = none) (ha : PA X [e, e2] ta)
    (hs : starEach [e, e2] X.env = (false, eval e X.env) :: starEach [e2] X.env := by rfl) (hpl : (backTo pos2 (starEach [e2] X.env)).any (·.1) = false := by rfl) (na : starEach [.Call (.Name "zip" p2) [e, e2] [] pos2] X.env = (false, eval (.Call (.Name "zip" p2) [e, e2] [] pos2) X.env) :: starEach [] X.env := by rfl) :
    PE X (.Call (.Name "list" p) [.Call (.Name "zip" p2) [e, e2] [] pos2] [] pos) (tLzS X.K ta) := by
  constructor
  intro pins s σ H Q I h
  refine Call_ (ld_blt I hgl hml boot_list (PyProof.Rows.callWith_type1 (args_cons ?_ na) na))
  refine Call_ (ld_blt I hg hm PyProof.Rows.boot_zip (PyProof.Rows.callWith_type1 (thn (ha.run pos2 pins s σ H _ I h) ?_) hs hpl))
  rintro us s1 ⟨vs, H1, I1, r1, x, a, ys, rfl, hq, hsz, h0, h1000, q⟩
  obtain ⟨u1, u2, rfl, rx, ra⟩ := vals2 r1
  obtain ⟨t, rfl⟩ := (show ∃ t, u1 = Value.str x t from rx)
  cases (show u2 = Value.ref a from ra)
  obtain ⟨its, rv, tup, _⟩ := I1.tuple hq
  have hal : a < s1.heap.objs.size := by obtain ⟨o, ho, _⟩ := tup; exact Heap.lt_size ho
  have hil : its.length = ys.length := rv.length.symm
  refine zip_begins2 (begins_text x t) (begins_tuple a its.toArray) True.intro tup fun h' hz hI hO ht1 ht2 hsz5 hk => ?_
  refine args_nil ?_
  have hh : X.A.in1.in1.handled = none := I1.ok.hd hc
  have Sp := zip_sep2 (N := s1.heap.objs.size) (fp1 := []) (fp2 := [a]) (fun b hb => nomatch hb) (fun b hb => by rw [List.mem_singleton.mp hb]; exact hal)
  have D1 := Draws.text (A := X.A.in1.in1.in1) (prog := X.prog) (w := X.w) (I1.ok.hd hc) s1.heap.objs.size x t
  have D2 := Draws.tuple (A := X.A.in1.in1.in1) (prog := X.prog) (w := X.w) (I1.ok.hd hc) (s1.heap.objs.size + 1) a (Nat.ne_of_lt (Nat.lt_succ_of_lt hal)) its.toArray
  have esz : its.toArray.size = x.cps.size := by rw [List.size_toArray, hil, hsz]
  rw [esz] at D2
  refine call_list_zip2 (z := s1.heap.objs.size + 4) hz fun R h1 cc sb hl hR => ?_
  have N6 : (h'.push { cls := .type "list", data := .seq #[] }).objs.size = h'.objs.size + 1 := Heap.size_push ..
  have lt5 : ∀ k : Nat, k < 5 → s1.heap.objs.size + k < h'.objs.size := fun k hk => by rw [hsz5]; exact Nat.add_lt_add_left hk _
  have ne5 : ∀ k : Nat, k < 5 → h'.objs.size ≠ s1.heap.objs.size + k := fun k hk e => Nat.lt_irrefl _ (e ▸ lt5 k hk)
  have lt6 : ∀ k : Nat, k < 5 → s1.heap.objs.size + k < (h'.push { cls := .type "list", data := .seq #[] }).objs.size := fun k hk => by rw [N6]; exact Nat.lt_succ_of_lt (lt5 k hk)
  have up : ∀ b o, b ≠ h'.objs.size → h'.get? b = some o → h1.get? b = some o := fun b o hb y => (sb.2 b hb).trans (Heap.get?_push_of_some _ y)
  have aS : h'.objs.size ≠ a := fun e => Nat.lt_irrefl a (Nat.lt_of_lt_of_le hal (e ▸ (by rw [hsz5]; exact Nat.le_add_right _ _)))
  have L : ZLs (h'.push { cls := .type "list", data := .seq #[] }) (s1.heap.objs.size + 4) (s1.heap.objs.size + 2) (s1.heap.objs.size + 3) s1.heap.objs.size (s1.heap.objs.size + 1) h'.objs.size [s1.heap.objs.size] [s1.heap.objs.size + 1, a] := {
    sep := Sp
    Sz := ne5 4 (by decide)
    SI := ne5 2 (by decide)
    SO := ne5 3 (by decide)
    S1 := fun m => ne5 0 (by decide) (List.mem_singleton.mp m)
    S2 := fun m => by
      rcases List.mem_cons.mp m with m | m
      · exact ne5 1 (by decide) m
      · exact aS (List.mem_singleton.mp m)
    oz := lt6 4 (by decide)
    oI := lt6 2 (by decide)
    oO := lt6 3 (by decide)
    oS := by rw [N6]; exact Nat.lt_succ_self _
    o1 := lt6 0 (by decide)
    o2 := lt6 1 (by decide) }
  have st1 := D1.frame 0 h' h1 ⟨_, ht1, rfl, rfl⟩ fun b hb o y => up b o (fun e => L.S1 (e ▸ hb)) y
  have st2 := D2.frame 0 h' h1 ⟨⟨_, ht2, rfl, rfl⟩, let ⟨o, ho, r⟩ := tup; ⟨o, hk _ _ ho, r⟩⟩ fun b hb o y => up b o (fun e => L.S2 (e ▸ hb)) y
  refine zl_loop (A := X.A.in1) L D1 D2 (by rw [hsz]; exact h0) (by rw [hsz]; exact h1000) .none x.cps.size 0 _ [] cc (Nat.sub_zero _) (Nat.zero_le _) ⟨hl, rfl, fun j T y => by simp at y, fun T y => (nomatch y), .nil, fun b o y1 _ _ _ _ y => (sb.2 b y1).trans y, .inl ⟨rfl, up _ _ (ne5 4 (by decide)).symm hz, _, _, up _ _ (ne5 3 (by decide)).symm hO⟩, up _ _ (ne5 2 (by decide)).symm hI, st1, st2⟩ (by rw [sb.1]; exact Nat.le_refl _) ?_
  intro h2 tk Ts cc2 hC
  refine hR h2 tk ?_
  have old5 : ∀ b o, s1.heap.get? b = some o → b ≠ h'.objs.size ∧ b ≠ s1.heap.objs.size + 4 ∧ b ≠ s1.heap.objs.size + 3 ∧ b ≠ s1.heap.objs.size ∧ b ≠ s1.heap.objs.size + 1 := fun b o y => by
    have hb := Heap.lt_size y
    have ne : ∀ k : Nat, b ≠ s1.heap.objs.size + k := fun k e => Nat.lt_irrefl b (Nat.lt_of_lt_of_le hb (e ▸ Nat.le_add_right _ _))
    exact ⟨fun e => ne 5 (e.trans hsz5), ne 4, ne 3, ne 0, ne 1⟩
  have fin : ∃ cc3, LisAt h2 h'.objs.size (Ts.map Value.ref) cc3 ∧ Ts.length = x.cps.size ∧ Ts.Nodup ∧ (∀ T ∈ Ts, (h'.push { cls := .type "list", data := .seq #[] }).objs.size ≤ T) ∧ (∀ (j : Nat) (T : Addr), Ts[j]? = some T → ∃ x' y, (∃ c u, x.cps[j]? = some c ∧ x' = .str ⟨#[c]⟩ u) ∧ its.toArray[j]? = some y ∧ IsTupOf2 h2 T x' y) ∧ ∀ b o, s1.heap.get? b = some o → h2.get? b = some o := by
    have pushed : ∀ b o, s1.heap.get? b = some o → (h'.push { cls := .type "list", data := .seq #[] }).get? b = some o := fun b o y => Heap.get?_push_of_some _ (hk _ _ y)
    rcases hC with C | ⟨h3, C, hk3⟩
    · exact ⟨cc2, C.lis, C.len, C.nd, fun T hT => (C.new T hT).1, C.tup, fun b o y => by
        obtain ⟨g1, g2, g3, g4, g5⟩ := old5 b o y
        exact C.kept b o g1 g2 g3 g4 g5 (pushed b o y)⟩
    · refine ⟨cc2, hk3 _ _ L.Sz (fun e => L.S1 (e ▸ L.sep.mem1)) (fun e => L.S2 (e ▸ L.sep.mem2)) C.lis, C.len, C.nd, fun T hT => (C.new T hT).1, fun j T hT => ?_, fun b o y => ?_⟩
      · obtain ⟨x', y, p1, p2, ht⟩ := C.tup j T hT
        have g := (C.new T (List.mem_of_getElem? hT)).1
        exact ⟨x', y, p1, p2, hk3 T _ (far_ne L.oz g) (far_ne L.o1 g) (far_ne L.o2 g) ht⟩
      · obtain ⟨g1, g2, g3, g4, g5⟩ := old5 b o y
        exact hk3 b o g2 g4 g5 (C.kept b o g1 g2 g3 g4 g5 (pushed b o y))
  obtain ⟨cc3, hL, hlen, nd, new, htup, keep⟩ := fin
  have bigS : s1.heap.objs.size ≤ h'.objs.size := by rw [hsz5]; exact Nat.le_add_right _ _
  have bigT : ∀ T ∈ Ts, h'.objs.size < T := fun T hT => Nat.lt_of_lt_of_le (by rw [N6]; exact Nat.lt_succ_self _) (new T hT)
  have nT : ∀ T ∈ Ts, H1 T = none := fun T hT => I1.hok.fresh (Nat.le_trans bigS (Nat.le_of_lt (bigT T hT)))
  have nS : H1 h'.objs.size = none := I1.hok.fresh bigS
  have Sno : h'.objs.size ∉ Ts := fun y => Nat.lt_irrefl _ (bigT _ y)
  suffices I2 : L2.Inv X pins σ (upd (trk (colS x ys) Ts 0 H1) h'.objs.size (.lst (Ts.map V.ref))) { s1 with heap := h2, toks := tk } from ⟨.ref h'.objs.size, _, I2, rfl, q Ts _ (by rw [hlen, hsz]) nd nT nS Sno⟩
  refine Inv_many (t' := tk) I1 keep (fun b u y => ?_) (fun b u y yn => ?_)
  · rw [upd_ne (fun z => by rw [z, nS] at y; cases y), trk_old (fun z => by rw [nT b z] at y; cases y)]
    exact y
  · by_cases hb : b = h'.objs.size
    · subst hb
      rw [upd_same] at y
      cases y
      refine ⟨bigS, by rw [List.length_map, sizeLine_eq, hlen, hsz]; omega, Ts.map Value.ref, cc3, ?_, hL⟩
      have go : ∀ ts : List Addr, Vals (ts.map V.ref) (ts.map Value.ref) := by
        intro ts
        induction ts with
        | nil => exact .nil
        | cons t ts ih => exact .cons rfl ih
      exact go Ts
    · rw [upd_ne hb] at y
      by_cases hb2 : b ∈ Ts
      · obtain ⟨k, hk⟩ := List.getElem?_of_mem hb2
        rw [trk_at nd hk, Nat.zero_add] at y
        cases y
        obtain ⟨x', y', ⟨c, u, hc1, rfl⟩, hy, ht⟩ := htup k b hk
        have hkl : k < ys.length := by rw [← hsz, ← hlen]; exact (List.getElem?_eq_some_iff.mp hk).1
        refine ⟨Nat.le_trans bigS (Nat.le_of_lt (bigT b hb2)), (by show 2 ≤ sizeLine; rw [sizeLine_eq]; omega), [.str ⟨#[c]⟩ u, y'], .cons ?_ (.cons ?_ .nil), ⟨_, ht, rfl, _, rfl⟩⟩
        · have e3 : x.cps.toList.getD k 0 = c := by
            rw [List.getD_eq_getElem?_getD, Array.getElem?_toList, hc1]
            rfl
          rw [e3]
          exact ⟨u, rfl⟩
        · obtain ⟨u2, g1, g2⟩ := rv.get (List.getElem?_eq_getElem hkl)
          have hy' : its[k]? = some y' := by simpa using hy
          rw [hy'] at g1
          cases g1
          rw [List.getD_eq_getElem?_getD, List.getElem?_eq_getElem hkl]
          exact g2
      · rw [trk_old hb2, yn] at y
        cases y
theorem ev_listZipS {K : PySem.W.Frag} {σ : L2.St} {B : Hp} {tl : TA} {z : Str} {ds : List Dt} (h : EvRA tl σ B [.str z, .tup ds]) (hz : z.cps.size = ds.length) (h0 : 0 < ds.length) (h1 : ds.length ≤ 1000) : EvR (tLzS K tl) σ B (.lst (zipS z ds)) := fun H1 e Q q => h H1 e _ fun vs B2 H2 n ra => by
  cases ra with | cons r1 ra =>
  cases ra with | cons r2 ra =>
  cases ra
  cases r1
  obtain ⟨p, us, rfl, hp, ra⟩ := r2.tup_inv
  have hul := ra.len
  refine ⟨z, p, us, rfl, Evl.st_of (n.sub _ _ hp), by rw [hz, hul], by omega, by omega, fun Ts S hT nd hTn hS hST => ?_⟩
  have n2 := new_trk (cols := colS z us) Ts 0 B2 H2 n.sub nd hTn
  have n3 := New.one (o := .lst (Ts.map V.ref)) n2.sub (p := S) (by rw [trk_old hST]; exact hS)
  refine q _ _ _ ((n.trans n2).trans n3) (.lst upd_same (RA.of ?_ fun i v d g1 g2 => ?_))
  · unfold zipS
    rw [List.length_map, List.length_map, List.length_zip, Array.length_toList (xs := z.cps), hT, hz, hul]
    exact (Nat.min_self _).symm
  · rw [List.getElem?_map] at g1
    cases hTi : Ts[i]? with
    | none => rw [hTi] at g1; cases g1
    | some T =>
    rw [hTi] at g1
    cases g1
    have hil : i < ds.length := by rw [← hul, ← hT]; exact (List.getElem?_eq_some_iff.mp hTi).1
    have i1 : i < z.cps.toList.length := by rw [Array.length_toList, hz]; exact hil
    have hne2 : T ≠ S := fun z => hST (z ▸ List.mem_of_getElem? hTi)
    have hd : (zipS z ds)[i]? = some (.tup [.str ⟨#[z.cps.toList.getD i 0]⟩, ds[i]]) := by
      unfold zipS
      rw [List.getElem?_map, List.getElem?_zip_eq_some (z := (z.cps.toList[i], ds[i])) |>.mpr ⟨List.getElem?_eq_getElem i1, List.getElem?_eq_getElem hil⟩, List.getD_eq_getElem?_getD, List.getElem?_eq_getElem i1]
      rfl
    rw [hd] at g2
    cases g2
    refine R.tup (xs := colS z us i) ?_ (.cons (.str _) (.cons ?_ .nil))
    · rw [upd_ne hne2, trk_at nd hTi, Nat.zero_add]
    · obtain ⟨d2, gd, rd⟩ := ra.getV (List.getElem?_eq_getElem (show i < us.length by rw [hul]; exact hil))
      rw [List.getElem?_eq_getElem hil] at gd
      cases gd
      rw [List.getD_eq_getElem?_getD, List.getElem?_eq_getElem (show i < us.length by rw [hul]; exact hil)]
      exact (rd.mono n2.ext).mono n3.ext
theorem k_listZipS {K : PySem.W.Frag} {X : Cx} {e e2 : Expr} {ta : TA} {p p2 pos pos2 : Pos} (hk : X.K = K) (hc : X.calm = true) (hgl : Gl X "list") (hml : X.mg "list" = none) (hg : Gl X "zip") (hm : X.mg "zip" = none) (ha : PA X [e, e2] ta)
    (hs : starEach [e, e2] X.env = (false, eval e X.env) :: starEach [e2] X.env := by rfl) (hpl : (backTo pos2 (starEach [e2] X.env)).any (·.1) = false := by rfl) (na : starEach [.Call (.Name "zip" p2) [e, e2] [] pos2] X.env = (false, eval (.Call (.Name "zip" p2) [e, e2] [] pos2) X.env) :: starEach [] X.env := by rfl) :
    PE X (.Call (.Name "list" p) [.Call (.Name "zip" p2) [e, e2] [] pos2] [] pos) (tLzS K ta) := hk ▸ pe_listZipS hc hgl hml hg hm ha hs hpl na
end U

/-! ZY: pictures of one's own: a new tuple of new lists, the last one of new lists. -/
namespace U
open PySem L2
open Evl (Ex fresh_back sz_of sz_lt sq_of st_of rLenS rListS)
/-- the lists at rs hold the rows G -/
inductive Rws (H : Hp) : List Addr → List (List Int) → Prop
  | nil : Rws H [] []
  | cons {r : Addr} {rs : List Addr} {x : List Int} {G : List (List Int)} : H r = some (.lst (x.map V.int)) → Rws H rs G → Rws H (r :: rs) (x :: G)
theorem Rws.mono {H H' : Hp} : ∀ {rs : List Addr} {G : List (List Int)}, (∀ r ∈ rs, ∀ u, H r = some u → H' r = some u) → Rws H rs G → Rws H' rs G
  | _, _, _, .nil => .nil
  | _, _, h, .cons a b => .cons (h _ List.mem_cons_self _ a) (Rws.mono (fun r hr => h r (List.mem_cons_of_mem _ hr)) b)
theorem Rws.ex {H H' : Hp} {rs : List Addr} {G : List (List Int)} (e : Ex H H') (h : Rws H rs G) : Rws H' rs G := h.mono fun r _ u => e r u
theorem Rws.append {H : Hp} : ∀ {rs ss : List Addr} {G K : List (List Int)}, Rws H rs G → Rws H ss K → Rws H (rs ++ ss) (G ++ K)
  | _, _, _, _, .nil, k => k
  | _, _, _, _, .cons a b, k => .cons a (Rws.append b k)
theorem Rws.len {H : Hp} : ∀ {rs : List Addr} {G : List (List Int)}, Rws H rs G → rs.length = G.length
  | _, _, .nil => rfl
  | _, _, .cons _ b => by rw [List.length_cons, List.length_cons, Rws.len b]
theorem Rws.some {H : Hp} : ∀ {rs : List Addr} {G : List (List Int)}, Rws H rs G → ∀ r ∈ rs, H r ≠ none
  | _, _, .nil, _, h => nomatch h
  | _, _, .cons a b, r, h => by
    rcases List.mem_cons.mp h with rfl | h
    · rw [a]; exact fun z => nomatch z
    · exact Rws.some b r h
theorem Rws.get {H : Hp} : ∀ {rs : List Addr} {G : List (List Int)} {i : Nat} {r : Addr}, Rws H rs G → rs[i]? = Option.some r → H r = Option.some (.lst ((G.getD i []).map V.int))
  | _, _, _, _, .nil, h => by simp at h
  | _, _, 0, _, .cons a b, h => by simp at h; subst h; exact a
  | _, _, i + 1, _, .cons a b, h => by
    have := Rws.get (i := i) b (by simpa using h)
    simpa using this
theorem Rws.data {B : Hp} : ∀ {rs : List Addr} {G : List (List Int)}, Rws B rs G → RA B (rs.map V.ref) (G.map eI)
  | _, _, .nil => .nil
  | _, _, .cons a b => .cons (.lst a (RA.ints _)) (Rws.data b)
/-- a list of one's own of lists of one's own -/
structure GrO (H0 B H : Hp) (g : Addr) (rs : List Addr) (G : List (List Int)) : Prop where
  hg : H g = some (.lst (rs.map V.ref))
  rows : Rws H rs G
  nd : (g :: rs).Nodup
  own : ∀ a ∈ g :: rs, H0 a = none ∧ B a = none
/-- a picture of one's own -/
structure PicO (H0 B H : Hp) (t l m g : Addr) (rs : List Addr) (C R : List Int) (G : List (List Int)) : Prop where
  ht : H t = some (.tup [.ref l, .ref m, .ref g])
  hl : H l = some (.lst (C.map V.int))
  hm : H m = some (.lst (R.map V.int))
  hg : H g = some (.lst (rs.map V.ref))
  rows : Rws H rs G
  nd : (t :: l :: m :: g :: rs).Nodup
  own : ∀ a ∈ t :: l :: m :: g :: rs, H0 a = none ∧ B a = none
theorem PicO.base {H00 H0 B H : Hp} {t l m g : Addr} {rs : List Addr} {C R : List Int} {G : List (List Int)} (e : Ex H00 H0) (o : PicO H0 B H t l m g rs C R G) : PicO H00 B H t l m g rs C R G :=
  ⟨o.ht, o.hl, o.hm, o.hg, o.rows, o.nd, fun a h => ⟨fresh_back e (o.own a h).1, (o.own a h).2⟩⟩
theorem GrO.base {H00 H0 B H : Hp} {g : Addr} {rs : List Addr} {G : List (List Int)} (e : Ex H00 H0) (o : GrO H0 B H g rs G) : GrO H00 B H g rs G :=
  ⟨o.hg, o.rows, o.nd, fun a h => ⟨fresh_back e (o.own a h).1, (o.own a h).2⟩⟩
/-- data: what all of it reads -/
def dPic (C R : List Int) (G : List (List Int)) : Dt := .tup [eI C, eI R, .lst (G.map eI)]
theorem PicO.data {H0 B H : Hp} {t l m g : Addr} {rs : List Addr} {C R : List Int} {G : List (List Int)} (o : PicO H0 B H t l m g rs C R G) : U.R (gB B H (t :: l :: m :: g :: rs)) (.ref t) (dPic C R G) := by
  have at_ : ∀ a ∈ t :: l :: m :: g :: rs, gB B H (t :: l :: m :: g :: rs) a = H a := fun a ha => by unfold gB; rw [if_pos ha]
  refine .tup ((at_ t (by simp)).trans o.ht) (.cons (.lst ((at_ l (by simp)).trans o.hl) (RA.ints _)) (.cons (.lst ((at_ m (by simp)).trans o.hm) (RA.ints _)) (.cons (.lst ((at_ g (by simp)).trans o.hg) ?_) .nil)))
  exact (o.rows.mono fun r hr u hu => (at_ r (by simp [hr])).trans hu).data
theorem GrO.data {H0 B H : Hp} {g : Addr} {rs : List Addr} {G : List (List Int)} (o : GrO H0 B H g rs G) : U.R (gB B H (g :: rs)) (.ref g) (.lst (G.map eI)) := by
  have at_ : ∀ a ∈ g :: rs, gB B H (g :: rs) a = H a := fun a ha => by unfold gB; rw [if_pos ha]
  exact .lst ((at_ g (by simp)).trans o.hg) (o.rows.mono fun r hr u hu => (at_ r (by simp [hr])).trans hu).data
def EvLL (te : TE) (σ : L2.St) (B : Hp) (G : List (List Int)) : Prop := ∀ H1, Ex B H1 → ∀ Q : VK, (∀ g rs B2 H2, New B H1 B2 H2 → GrO H1 B2 H2 g rs G → Q (.ref g) H2) → te σ H1 Q
def EvPO (te : TE) (σ : L2.St) (B : Hp) (C R : List Int) (G : List (List Int)) : Prop := ∀ H1, Ex B H1 → ∀ Q : VK, (∀ t l m g rs B2 H2, New B H1 B2 H2 → PicO H1 B2 H2 t l m g rs C R G → Q (.ref t) H2) → te σ H1 Q
section
variable {K : PySem.W.Frag} {σ : L2.St} {B B' H : Hp} {ta tb tc te : TE} {tl : TA} {ds : List Dt} {wi : TI} {g : TG} {C R : List Int} {G : List (List Int)} {E : XK}
theorem EvPO.toR (h : EvPO te σ B C R G) : EvR te σ B (dPic C R G) := fun H1 e Q q => h H1 e Q fun t l m g rs B2 H2 n o => q _ _ H2 (n.giveA o.own) o.data
theorem EvLL.toR (h : EvLL te σ B G) : EvR te σ B (.lst (G.map eI)) := fun H1 e Q q => h H1 e Q fun g rs B2 H2 n o => q _ _ H2 (n.giveA o.own) o.data
theorem EvPO.mono (e : Ex B B') (h : EvPO te σ B C R G) : EvPO te σ B' C R G := fun H1 e1 Q q => h H1 (e.trans e1) Q fun t l m g rs B2 H2 n o => by
  have nx : New B' H1 (join B' B2) H2 := ⟨join_l, join_sub (e1.trans n.heap) n.sub, n.heap, fun p h1 h2 => by
    unfold join
    rw [h1]
    exact n.fresh p (fresh_back e h1) h2⟩
  refine q t l m g rs _ H2 nx ⟨o.ht, o.hl, o.hm, o.hg, o.rows, o.nd, fun a ha => ⟨(o.own a ha).1, ?_⟩⟩
  have hb : B' a = none := fresh_back e1 (o.own a ha).1
  unfold join
  rw [hb]
  exact (o.own a ha).2
/-- [[..] for ..]: each row a list of one's own -/
theorem ell_lcN1 {α : Type} {l : List α} {enc : α → Dt} {f : α → List Int} {vs : List Nat} (h : GoesN wi σ B (l.map enc)) (hz : l.length < 100000)
    (hs : ∀ q v B1 H1 (k' : L2.St → Hp → Prop), q ∈ l → Ex B B1 → Ex B1 H1 → U.R B1 v (enc q) → (∀ σ2, wipe σ2 vs = wipe σ vs → EvL te σ2 B1 ((f q).map Dt.int) → k' σ2 H1) → g v (wipe σ vs) H1 k') :
    EvLL (tLc wi g tYes te vs) σ B (l.map f) := fun H0 e0 Q k => h H0 e0 _ fun J B1 H1 n lp D hD => by
  unfold LoopN at lp
  rw [List.length_map] at lp
  refine lc_it lp (fun i H' => ∃ B' rs, New B1 H1 B' H' ∧ Own H1 B' H' D (rs.map V.ref) ∧ Rws H' rs ((l.take i).map f) ∧ (D :: rs).Nodup ∧ ∀ r ∈ rs, H1 r = none ∧ B' r = none) ?_ ?_ ?_ ?_
  · exact ⟨B1, [], ⟨Evl.Ex.refl _, Evl.Ex.mut n.sub (fresh_back n.sub hD), Evl.Ex.new hD, fun _ h _ => h⟩, ⟨hD, fresh_back n.sub hD, upd_same⟩, by rw [List.take_zero]; exact .nil, by simp, fun r h => nomatch h⟩
  · rintro i H' _ ⟨B', rs, n', _⟩
    exact n'.ext.trans n'.sub
  · rintro i x H' H'' hi ⟨B', rs, n', o, rw0, nd, own⟩ y
    obtain ⟨B2, d, hd, n2, rx⟩ := y B' n'.ext n'.sub
    rw [List.getElem?_map] at hd
    cases hq : l[i]? with
    | none => rw [hq] at hd; cases hd
    | some a =>
    rw [hq] at hd; cases hd
    have hm := List.mem_of_getElem? hq
    have o2 := o.step n2
    refine hs a x B2 H'' _ hm (n.ext.trans (n'.ext.trans n2.ext)) n2.sub rx fun σ2 w2 he => ⟨w2, ?_⟩
    show te σ2 H'' _
    refine he H'' n2.sub _ fun p us B4 H4 n4 o4 ra4 => ?_
    have hus := ra4.ints_inv
    subst hus
    have oD := o2.step n4
    have pD : p ≠ D := fun z => by have := o4.h0; rw [z, o2.h] at this; cases this
    have hp1 : H1 p = none := fresh_back (n'.heap.trans n2.heap) o4.h0
    have prs : p ∉ rs := fun z => by
      have h1 := (rw0.ex n2.heap).some p z
      exact h1 o4.h0
    refine ⟨rs.map V.ref, oD.h, sz_lt (by rw [List.length_map, rw0.len, List.length_map, List.length_take]; omega), B4, rs ++ [p], (((n'.trans n2).trans n4).put oD), by rw [List.map_append]; exact oD.put, ?_, ?_, fun r hr => ?_⟩
    · have ht : (l.take (i + 1)).map f = (l.take i).map f ++ [f a] := by rw [List.take_add_one, hq, List.map_append]; rfl
      rw [ht]
      refine Rws.append (((rw0.ex n2.heap).ex n4.heap).mono fun r hr u hu => ?_) (.cons ?_ .nil)
      · rw [upd_ne (fun (z : r = D) => (List.nodup_cons.mp nd).1 (by rw [← z]; exact hr))]; exact hu
      · rw [upd_ne pD]; exact o4.h
    · have h1 := List.nodup_cons.mp nd
      refine List.nodup_cons.mpr ⟨fun z => ?_, List.nodup_append.mpr ⟨h1.2, by simp, fun u hu v hv => ?_⟩⟩
      · rcases List.mem_append.mp z with z | z
        · exact h1.1 z
        · exact pD (List.mem_singleton.mp z).symm
      · rw [List.mem_singleton.mp hv]
        exact fun z => prs (z ▸ hu)
    · rcases List.mem_append.mp hr with hr | hr
      · have hB2 : B2 r = none := n2.fresh r (own r hr).2 (rw0.some r hr)
        exact ⟨(own r hr).1, n4.fresh r hB2 ((rw0.ex n2.heap).some r hr)⟩
      · rw [List.mem_singleton.mp hr]; exact ⟨hp1, o4.b⟩
  · rintro H' ⟨B', rs, n', o, rw0, nd, own⟩
    rw [List.take_length] at rw0
    exact k D rs B' H' (n.trans n') ⟨o.h, rw0, nd, fun a ha => by
      rcases List.mem_cons.mp ha with rfl | ha
      · exact ⟨fresh_back n.heap o.h0, o.b⟩
      · exact ⟨fresh_back n.heap (own a ha).1, (own a ha).2⟩⟩
/-- a tuple of three lists of one's own -/
theorem epo_tup (ha : EvL ta σ B (C.map Dt.int)) (hb : EvL tb σ B (R.map Dt.int)) (hc : EvLL tc σ B G) : EvPO (tTup (tCons ta (tCons tb (tCons tc tNil)))) σ B C R G := fun H0 e0 Q k =>
  ha H0 e0 _ fun l us B1 H1 n1 o1 r1 => hb H1 (n1.ext.trans n1.sub) _ fun m ws B2' H2 n2' o2' r2' => hc H2 ((n1.ext.trans n1.sub).trans n2'.heap) _ fun g rs B3' H3 n3' o3' => ⟨sz_of (by simp), fun t ht => by
    have e1 := r1.ints_inv
    have e2 := r2'.ints_inv
    subst e1 e2
    have h2l : H2 l = some (.lst (C.map V.int)) := n2'.heap _ _ o1.h
    have h3l : H3 l = some (.lst (C.map V.int)) := n3'.heap _ _ h2l
    have h3m : H3 m = some (.lst (R.map V.int)) := n3'.heap _ _ o2'.h
    have nlm : l ≠ m := fun z => by have := o2'.h0; rw [← z, o1.h] at this; cases this
    have lrs : l ∉ g :: rs := fun z => by have := (o3'.own l z).1; rw [h2l] at this; cases this
    have mrs : m ∉ g :: rs := fun z => by have := (o3'.own m z).1; rw [o2'.h] at this; cases this
    have some3 : ∀ a ∈ g :: rs, H3 a ≠ none := fun a h => by
      rcases List.mem_cons.mp h with rfl | h
      · rw [o3'.hg]; exact fun z => nomatch z
      · exact o3'.rows.some a h
    have tl : t ≠ l := fun z => by rw [z, h3l] at ht; cases ht
    have tm : t ≠ m := fun z => by rw [z, h3m] at ht; cases ht
    have tg : t ∉ g :: rs := fun z => some3 t z ht
    have h01 : Ex H0 H1 := n1.heap
    have h02 : Ex H0 H2 := n1.heap.trans n2'.heap
    have h03 : Ex H0 H3 := h02.trans n3'.heap
    have new : New B H0 B (upd H3 t (.tup [.ref l, .ref m, .ref g])) := New.grow ((e0.trans h03).trans (Evl.Ex.new ht)) (h03.trans (Evl.Ex.new ht)) e0
    have bn : ∀ a, H0 a = none → B a = none := fun a h => fresh_back e0 h
    refine k t l m g rs B _ new ⟨upd_same, by rw [upd_ne tl.symm]; exact h3l, by rw [upd_ne tm.symm]; exact h3m, by rw [upd_ne (fun (z : g = t) => tg (by rw [← z]; exact List.mem_cons_self))]; exact o3'.hg, o3'.rows.mono fun r hr u hu => by rw [upd_ne (fun (z : r = t) => tg (by rw [← z]; exact List.mem_cons_of_mem _ hr))]; exact hu, ?_, fun a ha => ?_⟩
    · refine List.nodup_cons.mpr ⟨fun z => ?_, List.nodup_cons.mpr ⟨fun z => ?_, List.nodup_cons.mpr ⟨mrs, o3'.nd⟩⟩⟩
      · rcases List.mem_cons.mp z with z | z
        · exact tl z
        · rcases List.mem_cons.mp z with z | z
          · exact tm z
          · exact tg z
      · rcases List.mem_cons.mp z with z | z
        · exact nlm z
        · exact lrs z
    · have h0 : H0 a = none := by
        rcases List.mem_cons.mp ha with rfl | ha
        · exact fresh_back h03 ht
        · rcases List.mem_cons.mp ha with rfl | ha
          · exact o1.h0
          · rcases List.mem_cons.mp ha with rfl | ha
            · exact fresh_back h01 o2'.h0
            · exact fresh_back h02 (o3'.own a ha).1
      exact ⟨h0, bn a h0⟩⟩
theorem EvL.isL {es : List Dt} (h : EvL te σ B ds) (q : ds = es) : EvL te σ B es := q ▸ h
theorem s_retPO {D : Ends} (e : Ex B H) (h : EvPO te σ B C R G) (k : ∀ t l m g rs B1 H1, New B H B1 H1 → PicO H B1 H1 t l m g rs C R G → D.rt (.ref t) H1) : tRet te D σ H := h H e _ k
theorem s_retGO {D : Ends} (e : Ex B H) (h : EvLL te σ B G) (k : ∀ g rs B1 H1, New B H B1 H1 → GrO H B1 H1 g rs G → D.rt (.ref g) H1) : tRet te D σ H := h H e _ k
/-- promises -/
def spPO (gg : List Dt → List Int → List Int → List (List Int) → Prop) : Sp := fun vs H Q _ => ∃ B ds C R G, Ex B H ∧ RA B vs ds ∧ gg ds C R G ∧ ∀ t l m g rs B2 H2, New B H B2 H2 → PicO H B2 H2 t l m g rs C R G → Q (.ref t) H2
def spGO (gg : List Dt → List (List Int) → Prop) : Sp := fun vs H Q _ => ∃ B ds G, Ex B H ∧ RA B vs ds ∧ gg ds G ∧ ∀ g rs B2 H2, New B H B2 H2 → GrO H B2 H2 g rs G → Q (.ref g) H2
theorem epo_call {gg : List Dt → List Int → List Int → List (List Int) → Prop} (h : EvRA tl σ B ds) (hg : gg ds C R G) : EvPO (tCall (spPO gg) [] E tl) σ B C R G := fun H1 e Q q => h H1 e _ fun vs B1 H2 n ra =>
  ⟨B1, ds, C, R, G, n.sub, by rw [List.append_nil]; exact ra, hg, fun t l m g rs B2 H3 n2 o => q t l m g rs B2 H3 (n.trans n2) (o.base n.heap)⟩
theorem ego_call {gg : List Dt → List (List Int) → Prop} (h : EvRA tl σ B ds) (hg : gg ds G) : EvLL (tCall (spGO gg) [] E tl) σ B G := fun H1 e Q q => h H1 e _ fun vs B1 H2 n ra =>
  ⟨B1, ds, G, n.sub, by rw [List.append_nil]; exact ra, hg, fun g rs B2 H3 n2 o => q g rs B2 H3 (n.trans n2) (o.base n.heap)⟩
theorem epo_callK {gg : List Dt → List Int → List Int → List (List Int) → Prop} {gV : List V → List V → List V} {gD : List Dt → List Dt → List Dt} {tk : TA} {es : List Dt} (h : EvRA tl σ B ds) (hk : EvRA tk σ B es) (rel : ∀ B vs ws as bs, RA B vs as → RA B ws bs → as.length = ds.length → bs.length = es.length → RA B (gV vs ws) (gD as bs)) (hg : gg (gD ds es) C R G) : EvPO (tCallK (spPO gg) gV E tl tk) σ B C R G := fun H1 e Q q => h H1 e _ fun vs B1 H2 n ra => (hk.mono n.ext) H2 n.sub _ fun ws B2 H3 n2 rb =>
  ⟨B2, _, C, R, G, n2.sub, rel B2 vs ws ds es (ra.mono n2.ext) rb rfl rfl, hg, fun t l m g rs B3 H4 n3 o => q t l m g rs B3 H4 ((n.trans n2).trans n3) (o.base (n.heap.trans n2.heap))⟩
theorem ego_callK {gg : List Dt → List (List Int) → Prop} {gV : List V → List V → List V} {gD : List Dt → List Dt → List Dt} {tk : TA} {es : List Dt} (h : EvRA tl σ B ds) (hk : EvRA tk σ B es) (rel : ∀ B vs ws as bs, RA B vs as → RA B ws bs → as.length = ds.length → bs.length = es.length → RA B (gV vs ws) (gD as bs)) (hg : gg (gD ds es) G) : EvLL (tCallK (spGO gg) gV E tl tk) σ B G := fun H1 e Q q => h H1 e _ fun vs B1 H2 n ra => (hk.mono n.ext) H2 n.sub _ fun ws B2 H3 n2 rb =>
  ⟨B2, _, G, n2.sub, rel B2 vs ws ds es (ra.mono n2.ext) rb rfl rfl, hg, fun g rs B3 H4 n3 o => q g rs B3 H4 ((n.trans n2).trans n3) (o.base (n.heap.trans n2.heap))⟩
end
section
variable {P : Program} {w : World} {K : PySem.W.Frag} {mg : Str → Option Value} {base : Heap}
open PySem.Spec PyProof.Rows in
theorem fn_PO {x qual : Str} {st : Stmt} {f : Addr} {fd : FuncData} {N ps : List Str} {k : Nat} {gg : List Dt → List Int → List Int → List (List Int) → Prop} (F : Fun K x qual st f fd) (S : FnScope N ps (defScope st)) (len : ∀ ds C R G, gg ds C R G → ds.length = ps.length)
    (body : ∀ (cdv : Value) (Γ : Around) (below : List Env) (s : Shared) (B H : Hp) (vs : List V) (ds : List Dt) (C R : List Int) (G : List (List Int)) (Q : VK) (E : XK), Γ.guards = some [] → Room k (Γ.deeper (envOfC qual (defScope st) s.heap.objs.size f cdv)) →
      Ex B H → RA B vs ds → gg ds C R G → (∀ t l m g rs B2 H2, New B H B2 H2 → PicO H B2 H2 t l m g rs C R G → Q (.ref t) H2) →
      ∃ t, PSs (cxOf CX0 P w K mg base N qual (defScope st) f cdv Γ below s H E).nox (defBody st) t ∧ t { nx := fun _ H' => Q .non H', rt := Q } (start N vs) H) : FnG P w K mg base CX0 (k + 1) f fd ps (spPO gg) := by
  refine fn_S F S (fun vs H Q E h => ?_) (fun cdv Γ below s H vs Q E hg hr h => ?_)
  · obtain ⟨B, ds, C, R, G, _, ra, hd, _⟩ := h
    rw [ra.len]
    exact len ds C R G hd
  · obtain ⟨B, ds, C, R, G, e, ra, hd, q⟩ := h
    exact body cdv Γ below s B H vs ds C R G Q E hg hr e ra hd q
open PySem.Spec PyProof.Rows in
theorem fn_GO {x qual : Str} {st : Stmt} {f : Addr} {fd : FuncData} {N ps : List Str} {k : Nat} {gg : List Dt → List (List Int) → Prop} (F : Fun K x qual st f fd) (S : FnScope N ps (defScope st)) (len : ∀ ds G, gg ds G → ds.length = ps.length)
    (body : ∀ (cdv : Value) (Γ : Around) (below : List Env) (s : Shared) (B H : Hp) (vs : List V) (ds : List Dt) (G : List (List Int)) (Q : VK) (E : XK), Γ.guards = some [] → Room k (Γ.deeper (envOfC qual (defScope st) s.heap.objs.size f cdv)) →
      Ex B H → RA B vs ds → gg ds G → (∀ g rs B2 H2, New B H B2 H2 → GrO H B2 H2 g rs G → Q (.ref g) H2) →
      ∃ t, PSs (cxOf CX0 P w K mg base N qual (defScope st) f cdv Γ below s H E).nox (defBody st) t ∧ t { nx := fun _ H' => Q .non H', rt := Q } (start N vs) H) : FnG P w K mg base CX0 (k + 1) f fd ps (spGO gg) := by
  refine fn_S F S (fun vs H Q E h => ?_) (fun cdv Γ below s H vs Q E hg hr h => ?_)
  · obtain ⟨B, ds, G, _, ra, hd, _⟩ := h
    rw [ra.len]
    exact len ds G hd
  · obtain ⟨B, ds, G, e, ra, hd, q⟩ := h
    exact body cdv Γ below s B H vs ds G Q E hg hr e ra hd q
end
end U
namespace U
open PySem L2
open Evl (Ex fresh_back sz_of sz_lt sq_of st_of rLenS rListS)
section
variable {K : PySem.W.Frag} {σ : L2.St} {B H : Hp} {ta tb te : TE} {tl : TA} {ds : List Dt}
theorem GoesN.is {wi : TI} {σ : L2.St} {B : Hp} {ds es : List Dt} (h : GoesN wi σ B ds) (q : ds = es) : GoesN wi σ B es := q ▸ h
theorem loopN_rng {B1 : Hp} {m : Int} {k : Nat} : LoopN (Itr m k) B1 ((List.range k).map fun i : Nat => Dt.int (m + (i : Int))) := by
  unfold LoopN
  rw [List.length_map, List.length_range]
  refine walk_range.mono (fun _ _ => trivial) fun i H x H' hi e y B' e1 e2 => ?_
  obtain ⟨rfl, rfl⟩ := y
  exact ⟨B', _, by rw [List.getElem?_map, List.getElem?_range hi]; rfl, New.refl e2, .int _⟩
theorem goesN_rng1 {n : Int} (h : EvRA tl σ B [.int n]) (h0 : 0 ≤ n) (h1 : n ≤ 1000000) : GoesN (iRng1 tl) σ B ((List.range n.toNat).map fun i : Nat => Dt.int (0 + (i : Int))) := fun H e Z z => h H e _ fun vs B1 H1 nw ra => by
  cases ra with | cons r1 ra =>
  cases r1; cases ra
  exact ⟨n, rfl, by omega, by omega, z _ B1 H1 nw loopN_rng⟩
theorem goesN_rng2 {m n : Int} (h : EvRA tl σ B [.int m, .int n]) (hm : 0 ≤ m ∧ m ≤ 1000000) (hn : 0 ≤ n ∧ n ≤ 1000000) : GoesN (iRng2 tl) σ B ((List.range (n - m).toNat).map fun i : Nat => Dt.int (m + (i : Int))) := fun H e Z z => h H e _ fun vs B1 H1 nw ra => by
  cases ra with | cons r1 ra =>
  cases ra with | cons r2 ra =>
  cases r1; cases r2; cases ra
  exact ⟨m, n, rfl, ⟨by omega, by omega, by omega, by omega⟩, z _ B1 H1 nw loopN_rng⟩
/-- list(range(a, b)) -/
theorem ev_listRg2 {m n : Int} (h : EvR ta σ B (.int m)) (h2 : EvR tb σ B (.int n)) (hm : -1000000 ≤ m ∧ m ≤ 1000000) (hn : m ≤ n ∧ n ≤ 1000000) : EvR (tLstRg (tRg2 ta tb)) σ B (.lst ((List.range (n - m).toNat).map fun i : Nat => Dt.int (m + (i : Int)))) := fun H1 e Q q =>
  h H1 e _ fun v B1 H2 n1 r1 => (h2.mono n1.ext) H2 n1.sub _ fun w B2 H3 n2 r2 => by
    cases r1; cases r2
    refine ⟨m, n, rfl, rfl, ⟨by omega, by omega, by omega, by omega, by omega⟩, fun q2 hq => ?_⟩
    have N := New.one (o := .lst (rgV m n)) n2.sub hq
    refine q _ _ _ ((n1.trans n2).trans N) (.lst upd_same ?_)
    unfold rgV
    have : ∀ l : List Nat, RA (upd B2 q2 (.lst ((List.range (n - m).toNat).map fun i => V.int (m + (i : Nat))))) (l.map fun i => V.int (m + (i : Nat))) (l.map fun i : Nat => Dt.int (m + (i : Int))) := fun l => by
      induction l with
      | nil => exact .nil
      | cons x l ih => exact .cons (.int _) ih
    exact this _
end
end U

/-! ZX: pictures of one's own that are added to. -/
namespace U
open PySem L2
open Evl (Ex fresh_back sz_of sz_lt sq_of st_of rLenS rListS)
theorem New.mut {B0 H0 B H : Hp} {p : Addr} {u : HO} (n : New B0 H0 B H) (h0 : H0 p = none) (hb : B p = none) : New B0 H0 B (upd H p u) := ⟨n.ext, Ex.mut n.sub hb, Ex.mut n.heap h0, n.fresh⟩
theorem New.more {B0 H0 B H H1 : Hp} (n : New B0 H0 B H) (e : Ex H H1) : New B0 H0 B H1 := ⟨n.ext, n.sub.trans e, n.heap.trans e, n.fresh⟩
theorem Rws.set {H : Hp} {u : List Int} : ∀ {rs : List Addr} {G : List (List Int)} {i : Nat} {r : Addr}, Rws H rs G → rs.Nodup → rs[i]? = Option.some r → Rws (upd H r (.lst (u.map V.int))) rs (G.set i u)
  | _, _, _, _, .nil, _, h => by simp at h
  | _, _, 0, r, .cons (r := r0) (rs := rs) a b, nd, h => by
    simp at h
    subst h
    refine .cons upd_same (b.mono fun q hq v hv => ?_)
    rw [upd_ne (fun (z : q = r0) => (List.nodup_cons.mp nd).1 (by rw [← z]; exact hq))]
    exact hv
  | _, _, i + 1, r, .cons (r := r0) (rs := rs) a b, nd, h => by
    have h' : rs[i]? = Option.some r := by simpa using h
    refine .cons ?_ (Rws.set b (List.nodup_cons.mp nd).2 h')
    rw [upd_ne (fun (z : r0 = r) => (List.nodup_cons.mp nd).1 (by rw [z]; exact List.mem_of_getElem? h'))]
    exact a
/-- a list of one's own of lists of one's own, and of numbers -/
structure GrA (H0 B H : Hp) (g : Addr) (rs : List Addr) (ws : List Int) (G : List (List Int)) : Prop where
  hg : H g = some (.lst (rs.map V.ref ++ ws.map V.int))
  rows : Rws H rs G
  nd : (g :: rs).Nodup
  own : ∀ a ∈ g :: rs, H0 a = none ∧ B a = none
structure PicA (H0 B H : Hp) (t l m g : Addr) (rs : List Addr) (C R ws : List Int) (G : List (List Int)) : Prop where
  ht : H t = some (.tup [.ref l, .ref m, .ref g])
  hl : H l = some (.lst (C.map V.int))
  hm : H m = some (.lst (R.map V.int))
  hg : H g = some (.lst (rs.map V.ref ++ ws.map V.int))
  rows : Rws H rs G
  nd : (t :: l :: m :: g :: rs).Nodup
  own : ∀ a ∈ t :: l :: m :: g :: rs, H0 a = none ∧ B a = none
section
variable {H0 B B1 H H1 : Hp} {t l m g r : Addr} {rs : List Addr} {C R ws u : List Int} {G : List (List Int)} {i : Nat}
theorem GrO.grow (o : GrO H0 B H g rs G) : GrA H0 B H g rs [] G := ⟨by rw [List.map_nil, List.append_nil]; exact o.hg, o.rows, o.nd, o.own⟩
theorem PicO.grow (o : PicO H0 B H t l m g rs C R G) : PicA H0 B H t l m g rs C R [] G := ⟨o.ht, o.hl, o.hm, by rw [List.map_nil, List.append_nil]; exact o.hg, o.rows, o.nd, o.own⟩
theorem GrA.ex (e : Ex H H1) (o : GrA H0 B H g rs ws G) : GrA H0 B H1 g rs ws G := ⟨e _ _ o.hg, o.rows.ex e, o.nd, o.own⟩
theorem PicA.ex (e : Ex H H1) (o : PicA H0 B H t l m g rs C R ws G) : PicA H0 B H1 t l m g rs C R ws G := ⟨e _ _ o.ht, e _ _ o.hl, e _ _ o.hm, e _ _ o.hg, o.rows.ex e, o.nd, o.own⟩
theorem GrA.someA (o : GrA H0 B H g rs ws G) : ∀ a ∈ g :: rs, H a ≠ none := fun a ha => by
  rcases List.mem_cons.mp ha with rfl | ha
  · rw [o.hg]; exact fun z => nomatch z
  · exact o.rows.some a ha
theorem PicA.someA (o : PicA H0 B H t l m g rs C R ws G) : ∀ a ∈ t :: l :: m :: g :: rs, H a ≠ none := fun a ha => by
  rcases List.mem_cons.mp ha with rfl | ha
  · rw [o.ht]; exact fun z => nomatch z
  rcases List.mem_cons.mp ha with rfl | ha
  · rw [o.hl]; exact fun z => nomatch z
  rcases List.mem_cons.mp ha with rfl | ha
  · rw [o.hm]; exact fun z => nomatch z
  rcases List.mem_cons.mp ha with rfl | ha
  · rw [o.hg]; exact fun z => nomatch z
  · exact o.rows.some a ha
theorem GrA.step (n : New B H B1 H1) (o : GrA H0 B H g rs ws G) : GrA H0 B1 H1 g rs ws G :=
  ⟨n.heap _ _ o.hg, o.rows.ex n.heap, o.nd, fun a h => ⟨(o.own a h).1, n.fresh a (o.own a h).2 (o.someA a h)⟩⟩
theorem PicA.step (n : New B H B1 H1) (o : PicA H0 B H t l m g rs C R ws G) : PicA H0 B1 H1 t l m g rs C R ws G :=
  ⟨n.heap _ _ o.ht, n.heap _ _ o.hl, n.heap _ _ o.hm, n.heap _ _ o.hg, o.rows.ex n.heap, o.nd, fun a h => ⟨(o.own a h).1, n.fresh a (o.own a h).2 (o.someA a h)⟩⟩
theorem PicA.ne (o : PicA H0 B H t l m g rs C R ws G) : t ≠ l ∧ t ≠ m ∧ t ≠ g ∧ t ∉ rs ∧ l ≠ m ∧ l ≠ g ∧ l ∉ rs ∧ m ≠ g ∧ m ∉ rs ∧ g ∉ rs ∧ rs.Nodup := by
  have h := o.nd
  simp only [List.nodup_cons, List.mem_cons, not_or] at h
  obtain ⟨⟨h1, h2, h3, h4⟩, ⟨h5, h6, h7⟩, ⟨h8, h9⟩, h10, h11⟩ := h
  exact ⟨h1, h2, h3, h4, h5, h6, h7, h8, h9, h10, h11⟩
theorem rws_ne (h : Rws H rs G) (ha : r ∉ rs) {v : HO} : Rws (upd H r v) rs G := h.mono fun q hq w hw => by rw [upd_ne (fun (z : q = r) => ha (by rw [← z]; exact hq))]; exact hw
theorem PicA.putL (o : PicA H0 B H t l m g rs C R ws G) : PicA H0 B (upd H l (.lst (u.map V.int))) t l m g rs u R ws G := by
  obtain ⟨h1, h2, h3, h4, h5, h6, h7, h8, h9, h10, h11⟩ := o.ne
  exact ⟨by rw [upd_ne h1]; exact o.ht, upd_same, by rw [upd_ne h5.symm]; exact o.hm, by rw [upd_ne h6.symm]; exact o.hg, rws_ne o.rows h7, o.nd, o.own⟩
theorem PicA.putM (o : PicA H0 B H t l m g rs C R ws G) : PicA H0 B (upd H m (.lst (u.map V.int))) t l m g rs C u ws G := by
  obtain ⟨h1, h2, h3, h4, h5, h6, h7, h8, h9, h10, h11⟩ := o.ne
  exact ⟨by rw [upd_ne h2]; exact o.ht, by rw [upd_ne h5]; exact o.hl, upd_same, by rw [upd_ne h8.symm]; exact o.hg, rws_ne o.rows h9, o.nd, o.own⟩
theorem PicA.putG (o : PicA H0 B H t l m g rs C R ws G) : PicA H0 B (upd H g (.lst (rs.map V.ref ++ u.map V.int))) t l m g rs C R u G := by
  obtain ⟨h1, h2, h3, h4, h5, h6, h7, h8, h9, h10, h11⟩ := o.ne
  exact ⟨by rw [upd_ne h3]; exact o.ht, by rw [upd_ne h6]; exact o.hl, by rw [upd_ne h8]; exact o.hm, upd_same, rws_ne o.rows h10, o.nd, o.own⟩
theorem PicA.putR (o : PicA H0 B H t l m g rs C R ws G) (hr : rs[i]? = Option.some r) : PicA H0 B (upd H r (.lst (u.map V.int))) t l m g rs C R ws (G.set i u) := by
  obtain ⟨h1, h2, h3, h4, h5, h6, h7, h8, h9, h10, h11⟩ := o.ne
  have hm := List.mem_of_getElem? hr
  have ne : ∀ {a : Addr}, a ∉ rs → a ≠ r := fun h z => h (by rw [z]; exact hm)
  exact ⟨by rw [upd_ne (ne h4)]; exact o.ht, by rw [upd_ne (ne h7)]; exact o.hl, by rw [upd_ne (ne h9)]; exact o.hm, by rw [upd_ne (ne h10)]; exact o.hg, o.rows.set h11 hr, o.nd, o.own⟩
theorem GrA.putR (o : GrA H0 B H g rs ws G) (hr : rs[i]? = Option.some r) : GrA H0 B (upd H r (.lst (u.map V.int))) g rs ws (G.set i u) := by
  have hm := List.mem_of_getElem? hr
  have h := List.nodup_cons.mp o.nd
  exact ⟨by rw [upd_ne (fun (z : g = r) => h.1 (by rw [z]; exact hm))]; exact o.hg, o.rows.set h.2 hr, o.nd, o.own⟩
def dPicA (C R ws : List Int) (G : List (List Int)) : Dt := .tup [eI C, eI R, .lst (G.map eI ++ ws.map Dt.int)]
theorem PicA.data (o : PicA H0 B H t l m g rs C R ws G) : U.R (gB B H (t :: l :: m :: g :: rs)) (.ref t) (dPicA C R ws G) := by
  have at_ : ∀ a ∈ t :: l :: m :: g :: rs, gB B H (t :: l :: m :: g :: rs) a = H a := fun a ha => by unfold gB; rw [if_pos ha]
  refine .tup ((at_ t (by simp)).trans o.ht) (.cons (.lst ((at_ l (by simp)).trans o.hl) (RA.ints _)) (.cons (.lst ((at_ m (by simp)).trans o.hm) (RA.ints _)) (.cons (.lst ((at_ g (by simp)).trans o.hg) ?_) .nil)))
  exact (o.rows.mono fun r hr u hu => (at_ r (by simp [hr])).trans hu).data.append (RA.ints _)
theorem GrA.data (o : GrA H0 B H g rs ws G) : U.R (gB B H (g :: rs)) (.ref g) (.lst (G.map eI ++ ws.map Dt.int)) := by
  have at_ : ∀ a ∈ g :: rs, gB B H (g :: rs) a = H a := fun a ha => by unfold gB; rw [if_pos ha]
  exact .lst ((at_ g (by simp)).trans o.hg) ((o.rows.mono fun r hr u hu => (at_ r (by simp [hr])).trans hu).data.append (RA.ints _))
theorem PicA.gx (o : PicA H0 B H t l m g rs C R ws G) (e : Ex B H) : Ex B (gB B H (t :: l :: m :: g :: rs)) ∧ Ex (gB B H (t :: l :: m :: g :: rs)) H := ⟨gB_ext fun a h => (o.own a h).2, gB_ex e⟩
theorem GrA.gx (o : GrA H0 B H g rs ws G) (e : Ex B H) : Ex B (gB B H (g :: rs)) ∧ Ex (gB B H (g :: rs)) H := ⟨gB_ext fun a h => (o.own a h).2, gB_ex e⟩
end
/-! an address of one's own is reached -/
section
variable {K : PySem.W.Frag} {σ : L2.St} {B B1 H H1 : Hp} {ta tb ti te : TE} {n : Nat} {D : Ends} {v : V} {vs xs : List V} {t l : Addr} {i x : Int}
def GvA (te : TE) (σ : L2.St) (H : Hp) (v : V) : Prop := ∀ H1, Ex H H1 → ∀ Q : VK, (∀ H2, Ex H1 H2 → Q v H2) → te σ H1 Q
theorem gv_v (hv : σ[n]? = some (some v)) : GvA (tVar n) σ H v := fun H1 _ Q q => ⟨_, hv, q H1 (Ex.refl _)⟩
theorem gv_ixT (h : GvA ta σ H (.ref t)) (e : Ex B H) (hi : EvR ti σ B (.int i)) (ht : H t = some (.tup vs)) (ha : atI vs i = some v) : GvA (tOp (rIx K) ta ti) σ H v := fun H1 e1 Q q =>
  h H1 e1 _ fun H2 e2 => hi H2 ((e.trans e1).trans e2) _ fun w B3 H3 n3 r3 => by
    cases r3
    exact .inr (.inl ⟨t, vs, i, v, rfl, rfl, st_of (n3.heap _ _ (e2 _ _ (e1 _ _ ht))), ha, q H3 (e2.trans n3.heap)⟩)
theorem gv_ixL (h : GvA ta σ H (.ref t)) (e : Ex B H) (hi : EvR ti σ B (.int i)) (ht : H t = some (.lst vs)) (ha : atI vs i = some v) : GvA (tOp (rIx K) ta ti) σ H v := fun H1 e1 Q q =>
  h H1 e1 _ fun H2 e2 => hi H2 ((e.trans e1).trans e2) _ fun w B3 H3 n3 r3 => by
    cases r3
    exact .inl ⟨t, vs, i, v, rfl, rfl, sq_of (n3.heap _ _ (e2 _ _ (e1 _ _ ht))), ha, q H3 (e2.trans n3.heap)⟩
/-- x.append(e): x a list of one's own -/
theorem s_appG (h : GvA ta σ H (.ref l)) (e : Ex B H) (hl : H l = some (.lst xs)) (hx : EvR te σ B (.int x)) (hz : xs.length < 100000) (c : ∀ H1, Ex H H1 → D.nx σ (upd H1 l (.lst (xs ++ [.int x])))) : tDrop (tBM K "list" rAppend ta (tCons te tNil)) D σ H :=
  h H (Ex.refl H) _ fun H2 e2 => ⟨.inl ⟨rfl, _, .inl (.inl (e2 _ _ hl))⟩, hx H2 (e.trans e2) _ fun w B3 H3 n3 r3 => by
    cases r3
    exact ⟨l, xs, .int x, rfl, rfl, n3.heap _ _ (e2 _ _ hl), sz_lt hz, c H3 (e2.trans n3.heap)⟩⟩
end
/-! rows with something more -/
def addN (k : Int) (i : Nat) (G : List (List Int)) : List (List Int) := (List.range G.length).map fun j => if j < i then G.getD j [] ++ [k + (j : Int)] else G.getD j []
theorem addN_zero (k : Int) (G : List (List Int)) : addN k 0 G = G := by
  unfold addN
  refine List.ext_getElem (by simp) fun i h1 h2 => ?_
  simp at h1
  simp [List.getD_eq_getElem?_getD, List.getElem?_eq_getElem h1]
theorem addN_all (k : Int) (G : List (List Int)) : addN k G.length G = (List.range G.length).map fun j => G.getD j [] ++ [k + (j : Int)] := by
  unfold addN
  refine List.map_congr_left fun j hj => ?_
  rw [if_pos (List.mem_range.mp hj)]
theorem addN_len (k : Int) (i : Nat) (G : List (List Int)) : (addN k i G).length = G.length := by unfold addN; rw [List.length_map, List.length_range]
theorem addN_get {k : Int} {i : Nat} {G : List (List Int)} (h : i < G.length) : (addN k i G).getD i [] = G.getD i [] := by
  unfold addN
  rw [List.getD_eq_getElem?_getD, List.getElem?_map, List.getElem?_range h]
  simp
theorem addN_step {k : Int} {i : Nat} {G : List (List Int)} (h : i < G.length) : (addN k i G).set i (G.getD i [] ++ [k + (i : Int)]) = addN k (i + 1) G := by
  unfold addN
  refine List.ext_getElem (by simp) fun j h1 h2 => ?_
  simp at h1
  rw [List.getElem_set]
  by_cases hj : i = j
  · subst hj
    simp
  · rw [if_neg hj]
    simp only [List.getElem_map, List.getElem_range]
    by_cases hlt : j < i
    · rw [if_pos hlt, if_pos (by omega)]
    · rw [if_neg hlt, if_neg (by omega)]
end U
namespace U
open PySem L2
open Evl (Ex fresh_back)
theorem GrA.base {H00 H0 B H : Hp} {g : Addr} {rs : List Addr} {ws : List Int} {G : List (List Int)} (e : Ex H00 H0) (o : GrA H0 B H g rs ws G) : GrA H00 B H g rs ws G := ⟨o.hg, o.rows, o.nd, fun a h => ⟨fresh_back e (o.own a h).1, (o.own a h).2⟩⟩
theorem PicA.base {H00 H0 B H : Hp} {t l m g : Addr} {rs : List Addr} {C R ws : List Int} {G : List (List Int)} (e : Ex H00 H0) (o : PicA H0 B H t l m g rs C R ws G) : PicA H00 B H t l m g rs C R ws G := ⟨o.ht, o.hl, o.hm, o.hg, o.rows, o.nd, fun a h => ⟨fresh_back e (o.own a h).1, (o.own a h).2⟩⟩
theorem dPicA_nil {C R : List Int} {G : List (List Int)} : dPicA C R [] G = dPic C R G := by unfold dPicA dPic; rw [List.map_nil, List.append_nil]
theorem addN_G {k : Int} {i : Nat} {G : List (List Int)} (h : i = G.length) : addN k i G = (List.range G.length).map fun j => G.getD j [] ++ [k + (j : Int)] := by subst h; exact addN_all k G
theorem ref_at {rs : List Addr} {xs : List V} {i : Nat} {r : Addr} (h : rs[i]? = some r) : (rs.map V.ref ++ xs)[i]? = some (.ref r) := by
  have hl := (List.getElem?_eq_some_iff.mp h).1
  rw [List.getElem?_append_left (by rw [List.length_map]; exact hl), List.getElem?_map, h]
  rfl
theorem map_snoc {l : List Int} {x : Int} : (l ++ [x]).map V.int = l.map V.int ++ [.int x] := by rw [List.map_append]; rfl
end U
namespace U
open PySem L2
theorem rv_eqSame {K : PySem.W.Frag} {x y : Dt} (h1 : SeqAt.shaped x.py = true) (e : x = y) : RV (rEqD K) x y (.bl true) := by
  subst e
  have := rv_eqD (K := K) (x := x) (y := x) h1 h1
  rw [SeqAt.eqv_refl _ (SeqAt.canLay_of_shaped h1)] at this
  exact this
end U

set_option maxHeartbeats 4000000
local macro_rules | `(tactic| walk_at "u_rr") => `(tactic| first
  | assumption | exact U.R.int _ | exact U.R.bl _ | exact U.R.str _ | exact U.R.non
  | (apply U.R.mono; (first | (apply U.New.ext; assumption) | assumption); walk_at "u_rr"))
local macro_rules | `(tactic| walk_at "u_side") => `(tactic| first | assumption | decide | omega | rfl | (simp; done) | (simp; omega))
local macro_rules | `(tactic| walk_at "u_rv") => `(tactic| first
  | with_reducible exact U.rv_add | with_reducible exact U.rv_inl U.rv_add | with_reducible exact U.rv_sub
  | with_reducible exact U.rv_lt | with_reducible exact U.rv_le | with_reducible exact U.rv_gt | with_reducible exact U.rv_ge
  | with_reducible exact U.rv_inl U.rv_eqI | with_reducible exact U.rv_inl U.rv_neI | with_reducible exact U.rv_inl U.rv_eqS | with_reducible exact U.rv_inl U.rv_neS
  | ((with_reducible refine' U.rv_mul ?_); (unfold L2.CMul; walk_at "u_side"))
  | ((with_reducible refine' U.rv_mod ?_); walk_at "u_side")
  | ((with_reducible refine' U.rv_div ?_); (unfold L2.CDiv; walk_at "u_side"))
  | ((with_reducible refine' U.rv_pow ?_); (unfold L2.CPow; walk_at "u_side"))
  | ((with_reducible refine' U.rv_shr ?_); walk_at "u_side")
  | ((with_reducible refine' U.rv_ixL ?_); walk_at "u_side")
  | ((with_reducible refine' U.rv_ixT ?_); walk_at "u_side")
  | ((with_reducible refine' U.rv_inr (U.rv_cat ?_)); walk_at "u_side")
  | ((with_reducible refine' U.rv_inr (U.rv_eqD ?_ ?_)) <;> walk_at "u_side")
  | ((with_reducible refine' U.rv_inr (U.rv_neD ?_ ?_)) <;> walk_at "u_side"))
local macro_rules | `(tactic| walk_at "u_rl") => `(tactic| first
  | with_reducible exact U.rl_lenL | with_reducible exact U.rl_lenT | with_reducible exact U.rl_list | with_reducible exact U.rl_listT | with_reducible exact U.rl_tuple
  | with_reducible exact U.rl_abs | with_reducible exact U.rl_int | with_reducible exact U.rl_max2 | with_reducible exact U.rl_min2
  | ((with_reducible refine' U.rl_reprD ?_ ?_); rfl; assumption)
  | with_reducible exact U.rl_all
  | ((with_reducible refine' U.rl_min ?_); walk_at "u_side"))
local macro_rules | `(tactic| walk_at "u_call") => `(tactic| fail)
local macro_rules | `(tactic| walk_at "u_lc") => `(tactic| fail)
local macro_rules | `(tactic| walk_at "u_ea") => `(tactic| first
  | with_reducible exact U.ea_nil
  | ((with_reducible refine' U.ea_cons ?ha ?hb); (case ha => walk_at "u_ev"); (case hb => walk_at "u_ea")))
local macro_rules | `(tactic| walk_at "u_ev") => `(tactic| first
  | ((with_reducible refine' U.ev_v ?ha ?hb); (case ha => rfl); (case hb => walk_at "u_rr"))
  | with_reducible exact U.ev_i | with_reducible exact U.ev_s | with_reducible exact U.ev_b | with_reducible exact U.ev_n
  | ((with_reducible refine' U.ev_isTy ?ha (nc := ?hc)); (case ha => walk_at "u_ev"); (case hc => first | rfl | assumption))
  | ((with_reducible refine' U.ev_isi ?ha ?hb); (case ha => walk_at "u_ev"); (case hb => decide +kernel))
  | ((with_reducible refine' U.ev_op ?ha ?hb ?hc); (case ha => walk_at "u_ev"); (case hb => walk_at "u_ev"); (case hc => walk_at "u_rv"))
  | ((with_reducible refine' U.ev_un ?ha ?hc); (case ha => walk_at "u_ev"); (case hc => with_reducible exact U.ru_neg))
  | ((with_reducible refine' U.ev_cb ?ha ?hc); (case ha => walk_at "u_ea"); (case hc => walk_at "u_rl"))
  | ((with_reducible refine' U.ev_tup ?ha ?hc); (case ha => walk_at "u_ea"); (case hc => walk_at "u_side"))
  | ((with_reducible refine' U.ev_lst ?ha ?hc); (case ha => walk_at "u_ea"); (case hc => walk_at "u_side"))
  | ((with_reducible refine' U.ev_and ?ha ?hc); (case ha => walk_at "u_ev"); (case hc => (intro _; walk_at "u_ev")))
  | ((with_reducible refine' U.ev_or ?ha ?hc); (case ha => walk_at "u_ev"); (case hc => (intro _; walk_at "u_ev")))
  | ((with_reducible refine' U.ev_not ?ha); (case ha => walk_at "u_ev"))
  | ((with_reducible refine' U.ev_ifI ?ha ?hb ?hc); (case ha => walk_at "u_ec"); (case hb => walk_at "u_ev"); (case hc => walk_at "u_ev"))
  | ((with_reducible refine' U.ev_call ?ha ?hb); (case ha => walk_at "u_ea"); (case hb => walk_at "u_call"))
  | walk_at "u_lc")
local macro_rules | `(tactic| walk_at "u_ec") => `(tactic| first
  | ((with_reducible refine' U.ec_t ?ha); (case ha => walk_at "u_ev"))
  | ((with_reducible refine' U.ec_v ?ha); (case ha => walk_at "u_ev"))
  | ((with_reducible refine' U.ec_and ?ha ?hc); (case ha => walk_at "u_ec"); (case hc => (intro _; walk_at "u_ec")))
  | ((with_reducible refine' U.ec_or ?ha ?hc); (case ha => walk_at "u_ec"); (case hc => (intro _; walk_at "u_ec")))
  | ((with_reducible refine' U.ec_not ?ha); (case ha => walk_at "u_ec")))
local macro_rules | `(tactic| walk_at "u_n") => `(tactic| ((try (with_reducible refine' U.s_next ?_)); (try dsimp only)))
local macro_rules | `(tactic| walk_at "u_ev") => `(tactic| first
  | ((with_reducible refine' U.ev_chain ?ha ?hb ?hc ?hd ?he); (case ha => walk_at "u_ev"); (case hb => walk_at "u_ev"); (case hc => walk_at "u_rv"); (case hd => (intro _; walk_at "u_ev")); (case he => (intro _; walk_at "u_rv"))))
local macro_rules | `(tactic| walk_at "u_call") => `(tactic| first
  | exact ⟨_, rfl, rfl⟩ | exact ⟨_, _, rfl, rfl⟩ | exact ⟨_, _, _, rfl, rfl⟩ | exact ⟨_, _, _, _, rfl, rfl⟩)
local macro_rules | `(tactic| walk_at "u_lci") => `(tactic| (
  (refine' U.q_lc1 (enc := U.Dt.int) ?h ?it ?hz ?hw ?he); (case h => walk_at "u_ev"); (case it => first | exact U.Items.lst _ | exact U.Items.tup _); (case hz => walk_at "u_side"); (case hw => (intro _; rfl)); (case he => (intro q v B1 hm hB rv; cases rv; walk_at "u_ev"))))
local macro_rules | `(tactic| walk_at "u_ev") => `(tactic| ((with_reducible refine' U.ev_exc ?ha); (case ha => walk_at "u_ev")))
local macro_rules | `(tactic| walk_at "u_rv") => `(tactic| exact U.rv_ixT rfl)
local macro_rules | `(tactic| walk_at "u_rv") => `(tactic| exact U.rv_rep ⟨by decide, by decide⟩ (by simp))
local macro_rules | `(tactic| walk_at "u_m") => `(tactic| ((try (with_reducible refine' U.s_next ?_)); (try dsimp only [List.set_cons_succ, List.set_cons_zero])))
local macro_rules | `(tactic| walk_at "wdk") => `(tactic| first | exact decide_eq_true rfl | exact decide_eq_false U.wd_cf | exact decide_eq_false U.wd_mf | exact decide_eq_false U.wd_mc | exact decide_eq_false U.wd_if | exact decide_eq_false U.wd_ic | exact decide_eq_false U.wd_im | exact decide_eq_false U.wd_fm | exact decide_eq_false U.wd_cm | exact decide_eq_false U.wd_fc | exact decide_eq_false U.wd_fi | exact decide_eq_false U.wd_ci | exact decide_eq_false U.wd_mi)

namespace Law
open PySem L2 U
open Evl (Ex rLenS rListS st_of sq_of sz_lt sz_of fresh_back)
def top (i : Nat) : Stmt := PySem.Challenge.pw_unknowncorners_k18_pictures_cell_by_cell.main.body.getD i (.Pass ⟨0, 0, 0, 0⟩)
abbrev s_is_within : Stmt := top 9
abbrev s_is_tuple_of : Stmt := top 10
abbrev s_is_axis : Stmt := top 11
abbrev s_is_frame : Stmt := top 12
abbrev s_need_frame : Stmt := top 13
abbrev s_on_axis : Stmt := top 14
abbrev s_is_amount : Stmt := top 15
abbrev s_is_colour : Stmt := top 16
abbrev s_is_corner : Stmt := top 17
abbrev s_is_box : Stmt := top 18
abbrev s_is_test : Stmt := top 19
abbrev s_is_statement : Stmt := top 20
abbrev s_is_program : Stmt := top 21
abbrev s_need_program : Stmt := top 22
abbrev s_moved_further : Stmt := top 23
abbrev s_is_row : Stmt := top 25
abbrev s_is_setting : Stmt := top 26
abbrev s_need_setting : Stmt := top 27
abbrev s_moved_corner : Stmt := top 30
abbrev s_narrowed : Stmt := top 31
abbrev s_boxed : Stmt := top 32
abbrev s_tested : Stmt := top 33
abbrev s_parts_inside : Stmt := top 34
abbrev s_strokes_in : Stmt := top 35
abbrev s_strokes_of : Stmt := top 36
abbrev s_colours_of : Stmt := top 37
abbrev s_holds : Stmt := top 38
abbrev s_span_of : Stmt := top 39
abbrev s_spans_on : Stmt := top 40
abbrev s_stack_at : Stmt := top 41
abbrev s_cover_of : Stmt := top 42
abbrev s_top_stroke : Stmt := top 43
abbrev s_top_colour : Stmt := top 44
abbrev s_unlike_before : Stmt := top 46
abbrev s_framed : Stmt := top 47
abbrev s_painted : Stmt := top 48
abbrev s_picture_of : Stmt := top 49
abbrev s_picture : Stmt := top 50
abbrev s_look : Stmt := top 51
abbrev s__law_deck : Stmt := top 53
abbrev s__law_take : Stmt := top 54
abbrev s__law_corner : Stmt := top 55
abbrev s__law_box : Stmt := top 56
abbrev s__law_statement : Stmt := top 57
abbrev s__law_program : Stmt := top 58
abbrev s__law_home : Stmt := top 59
abbrev s__law_setting : Stmt := top 60
abbrev s__law_inside : Stmt := top 61
abbrev s__law_numbers : Stmt := top 62
abbrev s__law_layers : Stmt := top 63
abbrev s__law_top : Stmt := top 64
abbrev s__law_laid : Stmt := top 65
abbrev s__law_picture : Stmt := top 66
abbrev s__law_right : Stmt := top 67
abbrev s_law : Stmt := top 68
theorem sc_is_within : FnScope ["value", "least", "most"] ["value", "least", "most"] (defScope s_is_within) := ⟨rfl, rfl, rfl, by decide +kernel, rfl, by decide +kernel, by decide +kernel⟩
theorem sc_is_tuple_of : FnScope ["value", "many"] ["value", "many"] (defScope s_is_tuple_of) := ⟨rfl, rfl, rfl, by decide +kernel, rfl, by decide +kernel, by decide +kernel⟩
theorem sc_is_axis : FnScope ["value"] ["value"] (defScope s_is_axis) := ⟨rfl, rfl, rfl, by decide +kernel, rfl, by decide +kernel, by decide +kernel⟩
theorem sc_is_frame : FnScope ["value", "item"] ["value"] (defScope s_is_frame) := ⟨rfl, rfl, rfl, by decide +kernel, rfl, by decide +kernel, by decide +kernel⟩
theorem sc_need_frame : FnScope ["frame"] ["frame"] (defScope s_need_frame) := ⟨rfl, rfl, rfl, by decide +kernel, rfl, by decide +kernel, by decide +kernel⟩
theorem sc_on_axis : FnScope ["pair", "axis"] ["pair", "axis"] (defScope s_on_axis) := ⟨rfl, rfl, rfl, by decide +kernel, rfl, by decide +kernel, by decide +kernel⟩
theorem sc_is_amount : FnScope ["value"] ["value"] (defScope s_is_amount) := ⟨rfl, rfl, rfl, by decide +kernel, rfl, by decide +kernel, by decide +kernel⟩
theorem sc_is_colour : FnScope ["value"] ["value"] (defScope s_is_colour) := ⟨rfl, rfl, rfl, by decide +kernel, rfl, by decide +kernel, by decide +kernel⟩
theorem sc_is_corner : FnScope ["frame", "axis", "value", "number", "amount"] ["frame", "axis", "value"] (defScope s_is_corner) := ⟨rfl, rfl, rfl, by decide +kernel, rfl, by decide +kernel, by decide +kernel⟩
theorem sc_is_box : FnScope ["frame", "value", "axis", "corner"] ["frame", "value"] (defScope s_is_box) := ⟨rfl, rfl, rfl, by decide +kernel, rfl, by decide +kernel, by decide +kernel⟩
theorem sc_is_test : FnScope ["frame", "axis", "first", "second"] ["frame", "axis", "first", "second"] (defScope s_is_test) := ⟨rfl, rfl, rfl, by decide +kernel, rfl, by decide +kernel, by decide +kernel⟩
theorem sc_is_statement : FnScope ["frame", "value", "word", "parts"] ["frame", "value"] (defScope s_is_statement) := ⟨rfl, rfl, rfl, by decide +kernel, rfl, by decide +kernel, by decide +kernel⟩
theorem sc_is_program : FnScope ["frame", "value", "item"] ["frame", "value"] (defScope s_is_program) := ⟨rfl, rfl, rfl, by decide +kernel, rfl, by decide +kernel, by decide +kernel⟩
theorem sc_need_program : FnScope ["frame", "program"] ["frame", "program"] (defScope s_need_program) := ⟨rfl, rfl, rfl, by decide +kernel, rfl, by decide +kernel, by decide +kernel⟩
theorem sc_moved_further : FnScope ["moved", "statement"] ["moved", "statement"] (defScope s_moved_further) := ⟨rfl, rfl, rfl, by decide +kernel, rfl, by decide +kernel, by decide +kernel⟩
theorem sc_is_row : FnScope ["value", "many", "item"] ["value", "many"] (defScope s_is_row) := ⟨rfl, rfl, rfl, by decide +kernel, rfl, by decide +kernel, by decide +kernel⟩
theorem sc_is_setting : FnScope ["frame", "value"] ["frame", "value"] (defScope s_is_setting) := ⟨rfl, rfl, rfl, by decide +kernel, rfl, by decide +kernel, by decide +kernel⟩
theorem sc_need_setting : FnScope ["frame", "setting"] ["frame", "setting"] (defScope s_need_setting) := ⟨rfl, rfl, rfl, by decide +kernel, rfl, by decide +kernel, by decide +kernel⟩
theorem sc_moved_corner : FnScope ["corner", "by"] ["corner", "by"] (defScope s_moved_corner) := ⟨rfl, rfl, rfl, by decide +kernel, rfl, by decide +kernel, by decide +kernel⟩
theorem sc_narrowed : FnScope ["bounds", "low", "high", "by", "lows", "highs", "tests"] ["bounds", "low", "high", "by"] (defScope s_narrowed) := ⟨rfl, rfl, rfl, by decide +kernel, rfl, by decide +kernel, by decide +kernel⟩
theorem sc_boxed : FnScope ["around", "box", "moved", "left", "right", "top", "bottom"] ["around", "box", "moved"] (defScope s_boxed) := ⟨rfl, rfl, rfl, by decide +kernel, rfl, by decide +kernel, by decide +kernel⟩
theorem sc_tested : FnScope ["around", "axis", "less", "greater", "lows", "highs", "tests", "bounds"] ["around", "axis", "less", "greater"] (defScope s_tested) := ⟨rfl, rfl, rfl, by decide +kernel, rfl, by decide +kernel, by decide +kernel⟩
theorem sc_parts_inside : FnScope ["statement", "moved", "around", "word", "_", "axis", "first", "second", "program", "otherwise"] ["statement", "moved", "around"] (defScope s_parts_inside) := ⟨rfl, rfl, rfl, by decide +kernel, rfl, by decide +kernel, by decide +kernel⟩
theorem sc_strokes_in : FnScope ["program", "moved", "around", "found", "statement", "across", "down", "inside", "bounds"] ["program", "moved", "around"] (defScope s_strokes_in) := ⟨rfl, rfl, rfl, by decide +kernel, rfl, by decide +kernel, by decide +kernel⟩
theorem sc_strokes_of : FnScope ["program"] ["program"] (defScope s_strokes_of) := ⟨rfl, rfl, rfl, by decide +kernel, rfl, by decide +kernel, by decide +kernel⟩
theorem sc_colours_of : FnScope ["strokes", "across", "down", "colour"] ["strokes"] (defScope s_colours_of) := ⟨rfl, rfl, rfl, by decide +kernel, rfl, by decide +kernel, by decide +kernel⟩
theorem sc_holds : FnScope ["test", "values", "first", "more", "second", "further"] ["test", "values"] (defScope s_holds) := ⟨rfl, rfl, rfl, by decide +kernel, rfl, by decide +kernel, by decide +kernel⟩
theorem sc_span_of : FnScope ["bounds", "values", "lows", "highs", "tests", "test", "number", "amount"] ["bounds", "values"] (defScope s_span_of) := ⟨rfl, rfl, rfl, by decide +kernel, rfl, by decide +kernel, by decide +kernel⟩
theorem sc_spans_on : FnScope ["axis", "strokes", "values", "stroke"] ["axis", "strokes", "values"] (defScope s_spans_on) := ⟨rfl, rfl, rfl, by decide +kernel, rfl, by decide +kernel, by decide +kernel⟩
theorem sc_stack_at : FnScope ["spans", "place", "k", "low", "high"] ["spans", "place"] (defScope s_stack_at) := ⟨rfl, rfl, rfl, by decide +kernel, rfl, by decide +kernel, by decide +kernel⟩
theorem sc_cover_of : FnScope ["spans", "edges", "low", "high", "edge"] ["spans"] (defScope s_cover_of) := ⟨rfl, rfl, rfl, by decide +kernel, rfl, by decide +kernel, by decide +kernel⟩
theorem sc_top_stroke : FnScope ["stack"] ["stack"] (defScope s_top_stroke) := ⟨rfl, rfl, rfl, by decide +kernel, rfl, by decide +kernel, by decide +kernel⟩
theorem sc_top_colour : FnScope ["stack", "colours"] ["stack", "colours"] (defScope s_top_colour) := ⟨rfl, rfl, rfl, by decide +kernel, rfl, by decide +kernel, by decide +kernel⟩
theorem sc_unlike_before : FnScope ["lines", "k"] ["lines"] (defScope s_unlike_before) := ⟨rfl, rfl, rfl, by decide +kernel, rfl, by decide +kernel, by decide +kernel⟩
theorem sc_framed : FnScope ["columns", "rows", "grid", "across", "down", "i", "j"] ["columns", "rows", "grid"] (defScope s_framed) := ⟨rfl, rfl, rfl, by decide +kernel, rfl, by decide +kernel, by decide +kernel⟩
theorem sc_painted : FnScope ["columns", "rows", "colours", "x", "wide", "y", "high"] ["columns", "rows", "colours"] (defScope s_painted) := ⟨rfl, rfl, rfl, by decide +kernel, rfl, by decide +kernel, by decide +kernel⟩
theorem sc_picture_of : FnScope ["program", "setting", "strokes", "columns", "rows", "axis", "values"] ["program", "setting"] (defScope s_picture_of) := ⟨rfl, rfl, rfl, by decide +kernel, rfl, by decide +kernel, by decide +kernel⟩
theorem sc_picture : FnScope ["frame", "program", "setting"] ["frame", "program", "setting"] (defScope s_picture) := ⟨rfl, rfl, rfl, by decide +kernel, rfl, by decide +kernel, by decide +kernel⟩
theorem sc_look : FnScope ["frame", "program", "setting", "columns", "rows", "colours"] ["frame", "program", "setting"] (defScope s_look) := ⟨rfl, rfl, rfl, by decide +kernel, rfl, by decide +kernel, by decide +kernel⟩
theorem sc__law_deck : FnScope ["script", "seed", "cell"] ["script"] (defScope s__law_deck) := ⟨rfl, rfl, rfl, by decide +kernel, rfl, by decide +kernel, by decide +kernel⟩
theorem sc__law_take : FnScope ["deck", "wide", "left", "mixed"] ["deck", "wide"] (defScope s__law_take) := ⟨rfl, rfl, rfl, by decide +kernel, rfl, by decide +kernel, by decide +kernel⟩
theorem sc__law_corner : FnScope ["deck", "many"] ["deck", "many"] (defScope s__law_corner) := ⟨rfl, rfl, rfl, by decide +kernel, rfl, by decide +kernel, by decide +kernel⟩
theorem sc__law_box : FnScope ["deck", "home", "at"] ["deck", "home"] (defScope s__law_box) := ⟨rfl, rfl, rfl, by decide +kernel, rfl, by decide +kernel, by decide +kernel⟩
theorem sc__law_statement : FnScope ["deck", "home", "purse", "levels", "way", "box_here", "amounts", "turn", "axis", "corners", "first"] ["deck", "home", "purse", "levels"] (defScope s__law_statement) := ⟨rfl, rfl, rfl, by decide +kernel, rfl, by decide +kernel, by decide +kernel⟩
theorem sc__law_program : FnScope ["deck", "home", "purse", "levels", "many", "turn"] ["deck", "home", "purse", "levels"] (defScope s__law_program) := ⟨rfl, rfl, rfl, by decide +kernel, rfl, by decide +kernel, by decide +kernel⟩
theorem sc__law_home : FnScope ["deck", "most", "across"] ["deck", "most"] (defScope s__law_home) := ⟨rfl, rfl, rfl, by decide +kernel, rfl, by decide +kernel, by decide +kernel⟩
theorem sc__law_setting : FnScope ["deck", "home", "style", "far", "turn", "many"] ["deck", "home", "style"] (defScope s__law_setting) := ⟨rfl, rfl, rfl, by decide +kernel, rfl, by decide +kernel, by decide +kernel⟩
theorem sc__law_inside : FnScope ["one", "two", "left", "right", "top", "bottom"] ["one", "two"] (defScope s__law_inside) := ⟨rfl, rfl, rfl, by decide +kernel, rfl, by decide +kernel, by decide +kernel⟩
theorem sc__law_numbers : FnScope ["box_here", "values", "moved", "found", "at", "number", "amount"] ["box_here", "values", "moved"] (defScope s__law_numbers) := ⟨rfl, rfl, rfl, by decide +kernel, rfl, by decide +kernel, by decide +kernel⟩
theorem sc__law_layers : FnScope ["layout", "values", "moved", "clip", "found", "number", "one", "part", "further", "line", "comes_first", "rest"] ["layout", "values", "moved", "clip", "found", "number"] (defScope s__law_layers) := ⟨rfl, rfl, rfl, by decide +kernel, rfl, by decide +kernel, by decide +kernel⟩
theorem sc__law_top : FnScope ["layers", "x", "y", "found", "part", "shade", "number"] ["layers", "x", "y"] (defScope s__law_top) := ⟨rfl, rfl, rfl, by decide +kernel, rfl, by decide +kernel, by decide +kernel⟩
theorem sc__law_laid : FnScope ["layout", "values", "found"] ["layout", "values"] (defScope s__law_laid) := ⟨rfl, rfl, rfl, by decide +kernel, rfl, by decide +kernel, by decide +kernel⟩
theorem sc__law_picture : FnScope ["layers", "low", "high", "far", "rows", "x", "y", "strips", "row", "at", "columns", "lines", "kept", "here"] ["layers", "low", "high"] (defScope s__law_picture) := ⟨rfl, rfl, rfl, by decide +kernel, rfl, by decide +kernel, by decide +kernel⟩
theorem sc__law_right : FnScope ["home", "layout", "values", "kept", "due", "told", "at", "rows"] ["home", "layout", "values"] (defScope s__law_right) := ⟨rfl, rfl, rfl, by decide +kernel, rfl, by decide +kernel, by decide +kernel⟩
theorem sc_law : FnScope ["script", "deck", "turn", "home", "purse", "whole", "values", "erased"] ["script"] (defScope s_law) := ⟨rfl, rfl, rfl, by decide +kernel, rfl, by decide +kernel, by decide +kernel⟩
def kb_look_0_g : List Value → List Value → List Value | [], [w0, w1, w2] => [w2, w1, w0] | _, _ => []
def kb_look_0_v : List V → List V → List V | [], [w0, w1, w2] => [w2, w1, w0] | _, _ => []
def kb_look_0_d : List Dt → List Dt → List Dt | [], [w0, w1, w2] => [w2, w1, w0] | _, _ => []
def kb_picture_0_g : List Value → List Value → List Value | [], [w0, w1, w2] => [w2, w1, w0] | _, _ => []
def kb_picture_0_v : List V → List V → List V | [], [w0, w1, w2] => [w2, w1, w0] | _, _ => []
def kb_picture_0_d : List Dt → List Dt → List Dt | [], [w0, w1, w2] => [w2, w1, w0] | _, _ => []
theorem kb_look_0_rel {vs : List V} {us : List Value} {zs : List V} {ws : List Value} (r1 : Vals vs us) (r2 : Vals zs ws) : Vals (kb_look_0_v vs zs) (kb_look_0_g us ws) := by
  cases r1 with
  | cons _ _ => exact .nil
  | nil =>
    cases r2 with
    | nil => exact .nil
    | cons b0 r2 =>
      cases r2 with
      | nil => exact .nil
      | cons b1 r2 =>
        cases r2 with
        | nil => exact .nil
        | cons b2 r2 =>
          cases r2 with
          | cons _ _ => exact .nil
          | nil =>
            exact (.cons b2 (.cons b1 (.cons b0 .nil)))
theorem kb_look_0_reld {B : Hp} {vs : List V} {us : List Dt} {zs : List V} {ws : List Dt} (r1 : RA B vs us) (r2 : RA B zs ws) : RA B (kb_look_0_v vs zs) (kb_look_0_d us ws) := by
  cases r1 with
  | cons _ _ => exact .nil
  | nil =>
    cases r2 with
    | nil => exact .nil
    | cons b0 r2 =>
      cases r2 with
      | nil => exact .nil
      | cons b1 r2 =>
        cases r2 with
        | nil => exact .nil
        | cons b2 r2 =>
          cases r2 with
          | cons _ _ => exact .nil
          | nil =>
            exact (.cons b2 (.cons b1 (.cons b0 .nil)))
theorem kb_picture_0_rel {vs : List V} {us : List Value} {zs : List V} {ws : List Value} (r1 : Vals vs us) (r2 : Vals zs ws) : Vals (kb_picture_0_v vs zs) (kb_picture_0_g us ws) := by
  cases r1 with
  | cons _ _ => exact .nil
  | nil =>
    cases r2 with
    | nil => exact .nil
    | cons b0 r2 =>
      cases r2 with
      | nil => exact .nil
      | cons b1 r2 =>
        cases r2 with
        | nil => exact .nil
        | cons b2 r2 =>
          cases r2 with
          | cons _ _ => exact .nil
          | nil =>
            exact (.cons b2 (.cons b1 (.cons b0 .nil)))
theorem kb_picture_0_reld {B : Hp} {vs : List V} {us : List Dt} {zs : List V} {ws : List Dt} (r1 : RA B vs us) (r2 : RA B zs ws) : RA B (kb_picture_0_v vs zs) (kb_picture_0_d us ws) := by
  cases r1 with
  | cons _ _ => exact .nil
  | nil =>
    cases r2 with
    | nil => exact .nil
    | cons b0 r2 =>
      cases r2 with
      | nil => exact .nil
      | cons b1 r2 =>
        cases r2 with
        | nil => exact .nil
        | cons b2 r2 =>
          cases r2 with
          | cons _ _ => exact .nil
          | nil =>
            exact (.cons b2 (.cons b1 (.cons b0 .nil)))
structure Txt (K : PySem.W.Frag) (mg : Str → Option Value) (fa : Nat → Addr) (fd : Nat → FuncData) : Prop where
  d_is_within : At K mg "is_within" s_is_within (fa 9) (fd 9)
  d_is_tuple_of : At K mg "is_tuple_of" s_is_tuple_of (fa 10) (fd 10)
  d_is_axis : At K mg "is_axis" s_is_axis (fa 11) (fd 11)
  d_is_frame : At K mg "is_frame" s_is_frame (fa 12) (fd 12)
  d_need_frame : At K mg "need_frame" s_need_frame (fa 13) (fd 13)
  d_on_axis : At K mg "on_axis" s_on_axis (fa 14) (fd 14)
  d_is_amount : At K mg "is_amount" s_is_amount (fa 15) (fd 15)
  d_is_colour : At K mg "is_colour" s_is_colour (fa 16) (fd 16)
  d_is_corner : At K mg "is_corner" s_is_corner (fa 17) (fd 17)
  d_is_box : At K mg "is_box" s_is_box (fa 18) (fd 18)
  d_is_test : At K mg "is_test" s_is_test (fa 19) (fd 19)
  d_is_statement : At K mg "is_statement" s_is_statement (fa 20) (fd 20)
  d_is_program : At K mg "is_program" s_is_program (fa 21) (fd 21)
  d_need_program : At K mg "need_program" s_need_program (fa 22) (fd 22)
  d_moved_further : At K mg "moved_further" s_moved_further (fa 23) (fd 23)
  d_is_row : At K mg "is_row" s_is_row (fa 25) (fd 25)
  d_is_setting : At K mg "is_setting" s_is_setting (fa 26) (fd 26)
  d_need_setting : At K mg "need_setting" s_need_setting (fa 27) (fd 27)
  d_moved_corner : At K mg "moved_corner" s_moved_corner (fa 30) (fd 30)
  d_narrowed : At K mg "narrowed" s_narrowed (fa 31) (fd 31)
  d_boxed : At K mg "boxed" s_boxed (fa 32) (fd 32)
  d_tested : At K mg "tested" s_tested (fa 33) (fd 33)
  d_parts_inside : At K mg "parts_inside" s_parts_inside (fa 34) (fd 34)
  d_strokes_in : At K mg "strokes_in" s_strokes_in (fa 35) (fd 35)
  d_strokes_of : At K mg "strokes_of" s_strokes_of (fa 36) (fd 36)
  d_colours_of : At K mg "colours_of" s_colours_of (fa 37) (fd 37)
  d_holds : At K mg "holds" s_holds (fa 38) (fd 38)
  d_span_of : At K mg "span_of" s_span_of (fa 39) (fd 39)
  d_spans_on : At K mg "spans_on" s_spans_on (fa 40) (fd 40)
  d_stack_at : At K mg "stack_at" s_stack_at (fa 41) (fd 41)
  d_cover_of : At K mg "cover_of" s_cover_of (fa 42) (fd 42)
  d_top_stroke : At K mg "top_stroke" s_top_stroke (fa 43) (fd 43)
  d_top_colour : At K mg "top_colour" s_top_colour (fa 44) (fd 44)
  d_unlike_before : At K mg "unlike_before" s_unlike_before (fa 46) (fd 46)
  d_framed : At K mg "framed" s_framed (fa 47) (fd 47)
  d_painted : At K mg "painted" s_painted (fa 48) (fd 48)
  d_picture_of : At K mg "picture_of" s_picture_of (fa 49) (fd 49)
  d_picture : At K mg "picture" s_picture (fa 50) (fd 50)
  d_look : At K mg "look" s_look (fa 51) (fd 51)
  d__law_deck : At K mg "_law_deck" s__law_deck (fa 53) (fd 53)
  d__law_take : At K mg "_law_take" s__law_take (fa 54) (fd 54)
  d__law_corner : At K mg "_law_corner" s__law_corner (fa 55) (fd 55)
  d__law_box : At K mg "_law_box" s__law_box (fa 56) (fd 56)
  d__law_statement : At K mg "_law_statement" s__law_statement (fa 57) (fd 57)
  d__law_program : At K mg "_law_program" s__law_program (fa 58) (fd 58)
  d__law_home : At K mg "_law_home" s__law_home (fa 59) (fd 59)
  d__law_setting : At K mg "_law_setting" s__law_setting (fa 60) (fd 60)
  d__law_inside : At K mg "_law_inside" s__law_inside (fa 61) (fd 61)
  d__law_numbers : At K mg "_law_numbers" s__law_numbers (fa 62) (fd 62)
  d__law_layers : At K mg "_law_layers" s__law_layers (fa 63) (fd 63)
  d__law_top : At K mg "_law_top" s__law_top (fa 64) (fd 64)
  d__law_laid : At K mg "_law_laid" s__law_laid (fa 65) (fd 65)
  d__law_picture : At K mg "_law_picture" s__law_picture (fa 66) (fd 66)
  d__law_right : At K mg "_law_right" s__law_right (fa 67) (fd 67)
  d_law : At K mg "law" s_law (fa 68) (fd 68)
  k_MOST_UNKNOWNS : ∃ t, mg "MOST_UNKNOWNS" = some (.int 3 t)
  k_MOST_AMOUNT : ∃ t, mg "MOST_AMOUNT" = some (.int 9 t)
  k_MOST_COLOUR : ∃ t, mg "MOST_COLOUR" = some (.int 9 t)
  n_ValueError : mg "ValueError" = none
  n_abs : mg "abs" = none
  n_all : mg "all" = none
  n_enumerate : mg "enumerate" = none
  n_int : mg "int" = none
  n_len : mg "len" = none
  n_list : mg "list" = none
  n_max : mg "max" = none
  n_min : mg "min" = none
  n_range : mg "range" = none
  n_repr : mg "repr" = none
  n_set : mg "set" = none
  n_sorted : mg "sorted" = none
  n_str : mg "str" = none
  n_sum : mg "sum" = none
  n_tuple : mg "tuple" = none
  n_type : mg "type" = none
  n_zip : mg "zip" = none
  u_UNBOUNDED : UbOk K mg (ubOf K mg)
section
variable {K : PySem.W.Frag} {mg : Str → Option Value} {fa : Nat → Addr} {fd : Nat → FuncData}
theorem bn_is_within (T : Txt K mg fa fd) : Binds K (fd 9) ["value", "least", "most"] [] := T.d_is_within.F.binds fun _ _ _ _ _ _ us hl => match us, hl with | [_, _, _], _ => rfl
theorem bn_is_tuple_of (T : Txt K mg fa fd) : Binds K (fd 10) ["value", "many"] [] := T.d_is_tuple_of.F.binds fun _ _ _ _ _ _ us hl => match us, hl with | [_, _], _ => rfl
theorem bn_is_axis (T : Txt K mg fa fd) : Binds K (fd 11) ["value"] [] := T.d_is_axis.F.binds fun _ _ _ _ _ _ us hl => match us, hl with | [_], _ => rfl
theorem bn_is_frame (T : Txt K mg fa fd) : Binds K (fd 12) ["value"] [] := T.d_is_frame.F.binds fun _ _ _ _ _ _ us hl => match us, hl with | [_], _ => rfl
theorem bn_need_frame (T : Txt K mg fa fd) : Binds K (fd 13) ["frame"] [] := T.d_need_frame.F.binds fun _ _ _ _ _ _ us hl => match us, hl with | [_], _ => rfl
theorem bn_on_axis (T : Txt K mg fa fd) : Binds K (fd 14) ["pair", "axis"] [] := T.d_on_axis.F.binds fun _ _ _ _ _ _ us hl => match us, hl with | [_, _], _ => rfl
theorem bn_is_amount (T : Txt K mg fa fd) : Binds K (fd 15) ["value"] [] := T.d_is_amount.F.binds fun _ _ _ _ _ _ us hl => match us, hl with | [_], _ => rfl
theorem bn_is_colour (T : Txt K mg fa fd) : Binds K (fd 16) ["value"] [] := T.d_is_colour.F.binds fun _ _ _ _ _ _ us hl => match us, hl with | [_], _ => rfl
theorem bn_is_corner (T : Txt K mg fa fd) : Binds K (fd 17) ["frame", "axis", "value"] [] := T.d_is_corner.F.binds fun _ _ _ _ _ _ us hl => match us, hl with | [_, _, _], _ => rfl
theorem bn_is_box (T : Txt K mg fa fd) : Binds K (fd 18) ["frame", "value"] [] := T.d_is_box.F.binds fun _ _ _ _ _ _ us hl => match us, hl with | [_, _], _ => rfl
theorem bn_is_test (T : Txt K mg fa fd) : Binds K (fd 19) ["frame", "axis", "first", "second"] [] := T.d_is_test.F.binds fun _ _ _ _ _ _ us hl => match us, hl with | [_, _, _, _], _ => rfl
theorem bn_is_statement (T : Txt K mg fa fd) : Binds K (fd 20) ["frame", "value"] [] := T.d_is_statement.F.binds fun _ _ _ _ _ _ us hl => match us, hl with | [_, _], _ => rfl
theorem bn_is_program (T : Txt K mg fa fd) : Binds K (fd 21) ["frame", "value"] [] := T.d_is_program.F.binds fun _ _ _ _ _ _ us hl => match us, hl with | [_, _], _ => rfl
theorem bn_need_program (T : Txt K mg fa fd) : Binds K (fd 22) ["frame", "program"] [] := T.d_need_program.F.binds fun _ _ _ _ _ _ us hl => match us, hl with | [_, _], _ => rfl
theorem bn_moved_further (T : Txt K mg fa fd) : Binds K (fd 23) ["moved", "statement"] [] := T.d_moved_further.F.binds fun _ _ _ _ _ _ us hl => match us, hl with | [_, _], _ => rfl
theorem bn_is_row (T : Txt K mg fa fd) : Binds K (fd 25) ["value", "many"] [] := T.d_is_row.F.binds fun _ _ _ _ _ _ us hl => match us, hl with | [_, _], _ => rfl
theorem bn_is_setting (T : Txt K mg fa fd) : Binds K (fd 26) ["frame", "value"] [] := T.d_is_setting.F.binds fun _ _ _ _ _ _ us hl => match us, hl with | [_, _], _ => rfl
theorem bn_need_setting (T : Txt K mg fa fd) : Binds K (fd 27) ["frame", "setting"] [] := T.d_need_setting.F.binds fun _ _ _ _ _ _ us hl => match us, hl with | [_, _], _ => rfl
theorem bn_moved_corner (T : Txt K mg fa fd) : Binds K (fd 30) ["corner", "by"] [] := T.d_moved_corner.F.binds fun _ _ _ _ _ _ us hl => match us, hl with | [_, _], _ => rfl
theorem bn_narrowed (T : Txt K mg fa fd) : Binds K (fd 31) ["bounds", "low", "high", "by"] [] := T.d_narrowed.F.binds fun _ _ _ _ _ _ us hl => match us, hl with | [_, _, _, _], _ => rfl
theorem bn_boxed (T : Txt K mg fa fd) : Binds K (fd 32) ["around", "box", "moved"] [] := T.d_boxed.F.binds fun _ _ _ _ _ _ us hl => match us, hl with | [_, _, _], _ => rfl
theorem bn_tested (T : Txt K mg fa fd) : Binds K (fd 33) ["around", "axis", "less", "greater"] [] := T.d_tested.F.binds fun _ _ _ _ _ _ us hl => match us, hl with | [_, _, _, _], _ => rfl
theorem bn_parts_inside (T : Txt K mg fa fd) : Binds K (fd 34) ["statement", "moved", "around"] [] := T.d_parts_inside.F.binds fun _ _ _ _ _ _ us hl => match us, hl with | [_, _, _], _ => rfl
theorem bn_strokes_in (T : Txt K mg fa fd) : Binds K (fd 35) ["program", "moved", "around"] [] := T.d_strokes_in.F.binds fun _ _ _ _ _ _ us hl => match us, hl with | [_, _, _], _ => rfl
theorem bn_strokes_of (T : Txt K mg fa fd) : Binds K (fd 36) ["program"] [] := T.d_strokes_of.F.binds fun _ _ _ _ _ _ us hl => match us, hl with | [_], _ => rfl
theorem bn_colours_of (T : Txt K mg fa fd) : Binds K (fd 37) ["strokes"] [] := T.d_colours_of.F.binds fun _ _ _ _ _ _ us hl => match us, hl with | [_], _ => rfl
theorem bn_holds (T : Txt K mg fa fd) : Binds K (fd 38) ["test", "values"] [] := T.d_holds.F.binds fun _ _ _ _ _ _ us hl => match us, hl with | [_, _], _ => rfl
theorem bn_span_of (T : Txt K mg fa fd) : Binds K (fd 39) ["bounds", "values"] [] := T.d_span_of.F.binds fun _ _ _ _ _ _ us hl => match us, hl with | [_, _], _ => rfl
theorem bn_spans_on (T : Txt K mg fa fd) : Binds K (fd 40) ["axis", "strokes", "values"] [] := T.d_spans_on.F.binds fun _ _ _ _ _ _ us hl => match us, hl with | [_, _, _], _ => rfl
theorem bn_stack_at (T : Txt K mg fa fd) : Binds K (fd 41) ["spans", "place"] [] := T.d_stack_at.F.binds fun _ _ _ _ _ _ us hl => match us, hl with | [_, _], _ => rfl
theorem bn_cover_of (T : Txt K mg fa fd) : Binds K (fd 42) ["spans"] [] := T.d_cover_of.F.binds fun _ _ _ _ _ _ us hl => match us, hl with | [_], _ => rfl
theorem bn_top_stroke (T : Txt K mg fa fd) : Binds K (fd 43) ["stack"] [] := T.d_top_stroke.F.binds fun _ _ _ _ _ _ us hl => match us, hl with | [_], _ => rfl
theorem bn_top_colour (T : Txt K mg fa fd) : Binds K (fd 44) ["stack", "colours"] [] := T.d_top_colour.F.binds fun _ _ _ _ _ _ us hl => match us, hl with | [_, _], _ => rfl
theorem bn_unlike_before (T : Txt K mg fa fd) : Binds K (fd 46) ["lines"] [] := T.d_unlike_before.F.binds fun _ _ _ _ _ _ us hl => match us, hl with | [_], _ => rfl
theorem bn_framed (T : Txt K mg fa fd) : Binds K (fd 47) ["columns", "rows", "grid"] [] := T.d_framed.F.binds fun _ _ _ _ _ _ us hl => match us, hl with | [_, _, _], _ => rfl
theorem bn_painted (T : Txt K mg fa fd) : Binds K (fd 48) ["columns", "rows", "colours"] [] := T.d_painted.F.binds fun _ _ _ _ _ _ us hl => match us, hl with | [_, _, _], _ => rfl
theorem bn_picture_of (T : Txt K mg fa fd) : Binds K (fd 49) ["program", "setting"] [] := T.d_picture_of.F.binds fun _ _ _ _ _ _ us hl => match us, hl with | [_, _], _ => rfl
theorem bn_picture (T : Txt K mg fa fd) : Binds K (fd 50) ["frame", "program", "setting"] [] := T.d_picture.F.binds fun _ _ _ _ _ _ us hl => match us, hl with | [_, _, _], _ => rfl
theorem bn_look (T : Txt K mg fa fd) : Binds K (fd 51) ["frame", "program", "setting"] [] := T.d_look.F.binds fun _ _ _ _ _ _ us hl => match us, hl with | [_, _, _], _ => rfl
theorem bn__law_deck (T : Txt K mg fa fd) : Binds K (fd 53) ["script"] [] := T.d__law_deck.F.binds fun _ _ _ _ _ _ us hl => match us, hl with | [_], _ => rfl
theorem bn__law_take (T : Txt K mg fa fd) : Binds K (fd 54) ["deck", "wide"] [] := T.d__law_take.F.binds fun _ _ _ _ _ _ us hl => match us, hl with | [_, _], _ => rfl
theorem bn__law_corner (T : Txt K mg fa fd) : Binds K (fd 55) ["deck", "many"] [] := T.d__law_corner.F.binds fun _ _ _ _ _ _ us hl => match us, hl with | [_, _], _ => rfl
theorem bn__law_box (T : Txt K mg fa fd) : Binds K (fd 56) ["deck", "home"] [] := T.d__law_box.F.binds fun _ _ _ _ _ _ us hl => match us, hl with | [_, _], _ => rfl
theorem bn__law_statement (T : Txt K mg fa fd) : Binds K (fd 57) ["deck", "home", "purse", "levels"] [] := T.d__law_statement.F.binds fun _ _ _ _ _ _ us hl => match us, hl with | [_, _, _, _], _ => rfl
theorem bn__law_program (T : Txt K mg fa fd) : Binds K (fd 58) ["deck", "home", "purse", "levels"] [] := T.d__law_program.F.binds fun _ _ _ _ _ _ us hl => match us, hl with | [_, _, _, _], _ => rfl
theorem bn__law_home (T : Txt K mg fa fd) : Binds K (fd 59) ["deck", "most"] [] := T.d__law_home.F.binds fun _ _ _ _ _ _ us hl => match us, hl with | [_, _], _ => rfl
theorem bn__law_setting (T : Txt K mg fa fd) : Binds K (fd 60) ["deck", "home", "style"] [] := T.d__law_setting.F.binds fun _ _ _ _ _ _ us hl => match us, hl with | [_, _, _], _ => rfl
theorem bn__law_inside (T : Txt K mg fa fd) : Binds K (fd 61) ["one", "two"] [] := T.d__law_inside.F.binds fun _ _ _ _ _ _ us hl => match us, hl with | [_, _], _ => rfl
theorem bn__law_numbers (T : Txt K mg fa fd) : Binds K (fd 62) ["box_here", "values", "moved"] [] := T.d__law_numbers.F.binds fun _ _ _ _ _ _ us hl => match us, hl with | [_, _, _], _ => rfl
theorem bn__law_layers (T : Txt K mg fa fd) : Binds K (fd 63) ["layout", "values", "moved", "clip", "found", "number"] [] := T.d__law_layers.F.binds fun _ _ _ _ _ _ us hl => match us, hl with | [_, _, _, _, _, _], _ => rfl
theorem bn__law_top (T : Txt K mg fa fd) : Binds K (fd 64) ["layers", "x", "y"] [] := T.d__law_top.F.binds fun _ _ _ _ _ _ us hl => match us, hl with | [_, _, _], _ => rfl
theorem bn__law_laid (T : Txt K mg fa fd) : Binds K (fd 65) ["layout", "values"] [] := T.d__law_laid.F.binds fun _ _ _ _ _ _ us hl => match us, hl with | [_, _], _ => rfl
theorem bn__law_picture (T : Txt K mg fa fd) : Binds K (fd 66) ["layers", "low", "high"] [] := T.d__law_picture.F.binds fun _ _ _ _ _ _ us hl => match us, hl with | [_, _, _], _ => rfl
theorem bn__law_right (T : Txt K mg fa fd) : Binds K (fd 67) ["home", "layout", "values"] [] := T.d__law_right.F.binds fun _ _ _ _ _ _ us hl => match us, hl with | [_, _, _], _ => rfl
theorem bn_law (T : Txt K mg fa fd) : Binds K (fd 68) ["script"] [] := T.d_law.F.binds fun _ _ _ _ _ _ us hl => match us, hl with | [_], _ => rfl
theorem kb_look_0 (T : Txt K mg fa fd) : KBinds K (fd 51) ["frame", "program", "setting"] ["setting", "program", "frame"] kb_look_0_g kb_look_0_v := by
  refine kb_of T.d_look.F (fun _ _ _ _ _ _ us ws hl => ?_) (fun {vs us zs ws} r1 r2 => ?_)
  · match us, ws, hl with | [], [w0, w1, w2], _ => rfl
  · exact kb_look_0_rel r1 r2
theorem kb_picture_0 (T : Txt K mg fa fd) : KBinds K (fd 50) ["frame", "program", "setting"] ["setting", "program", "frame"] kb_picture_0_g kb_picture_0_v := by
  refine kb_of T.d_picture.F (fun _ _ _ _ _ _ us ws hl => ?_) (fun {vs us zs ws} r1 r2 => ?_)
  · match us, ws, hl with | [], [w0, w1, w2], _ => rfl
  · exact kb_picture_0_rel r1 r2
end
section
variable {P : Program} {w : World} {K : PySem.W.Frag} {mg : Str → Option Value} {base : Heap} {fa : Nat → Addr} {fd : Nat → FuncData}
def g_is_within (ds : List Dt) (d : Dt) : Prop := ∃ i a b : Int, ds = [.int i, .int a, .int b] ∧ d = .bl (decide (a ≤ i) && decide (i ≤ b))
theorem ok_is_within (T : Txt K mg fa fd) : FnG P w K mg base CX0 1 (fa 9) (fd 9) ["value", "least", "most"] (spD g_is_within) := by
  refine fn_D T.d_is_within.F sc_is_within (fun ds d h => by obtain ⟨_, _, _, rfl, _⟩ := h; rfl) (fun cdv Γ below s B H vs ds d Q E hg hr e ra hd ret => ?_)
  obtain ⟨i, a, b, rfl, rfl⟩ := hd
  rcases ra with _ | ⟨r1, _ | ⟨r2, _ | ⟨r3, _ | _⟩⟩⟩
  cases r1; cases r2; cases r3
  refine ⟨_, (pss_one (ps_ret (pe_and (pe_cmpR op_isT (pe_typeX rfl T.n_type (pv 0)) (pe_bltn (v := .ty "int") rfl T.n_int (by decide +kernel) rfl) (nomark _)) (pe_one (pe_chain op_le op_le (pv 1) (pv 0) (pv 2)))))), ?_⟩
  exact s_retE e (by walk_at "u_ev") (by simp [Dt.kind]) (fun v B1 H2 n1 rv => ret v B1 H2 n1 rv)

def g_is_tuple_of (ds : List Dt) (d : Dt) : Prop := ∃ (xs : List Dt) (n : Int), ds = [.tup xs, .int n] ∧ d = .bl (decide ((xs.length : Int) = n))
theorem ok_is_tuple_of (T : Txt K mg fa fd) : FnG P w K mg base CX0 1 (fa 10) (fd 10) ["value", "many"] (spD g_is_tuple_of) := by
  refine fn_D T.d_is_tuple_of.F sc_is_tuple_of (fun ds d h => by obtain ⟨_, _, rfl, _⟩ := h; rfl) (fun cdv Γ below s B H vs ds d Q E hg hr e ra hd ret => ?_)
  obtain ⟨xs, n, rfl, rfl⟩ := hd
  rcases ra with _ | ⟨r1, _ | ⟨r2, _ | _⟩⟩
  cases r2
  have hu := hr.units
  refine ⟨_, (pss_one (ps_ret (pe_and (pe_cmpR op_isT (pe_typeX rfl T.n_type (pv 0)) (pe_bltn (v := .ty "tuple") rfl T.n_tuple (by decide +kernel) rfl) (nomark _)) (pe_one (pe_cmpR (k_eq (K := K) rfl hu) (pe_callB (k_len (K := K) rfl) rfl T.n_len (by decide +kernel) (pa_cons (pv 0) pa_nil)) (pv 1) (nomark _)))))), ?_⟩
  exact s_retE e (by walk_at "u_ev") (by simp [Dt.kind]) (fun v B1 H2 n1 rv => ret v B1 H2 n1 rv)

def g_is_axis (ds : List Dt) (d : Dt) : Prop := ∃ b : Bool, ds = [.str (axS b)] ∧ d = .bl true
theorem ok_is_axis (T : Txt K mg fa fd) : FnG P w K mg base CX0 1 (fa 11) (fd 11) ["value"] (spD g_is_axis) := by
  refine fn_D T.d_is_axis.F sc_is_axis (fun ds d h => by obtain ⟨_, rfl, _⟩ := h; rfl) (fun cdv Γ below s B H vs ds d Q E hg hr e ra hd ret => ?_)
  obtain ⟨b, rfl, rfl⟩ := hd
  rcases ra with _ | ⟨r1, _ | _⟩
  refine ⟨_, (pss_one (ps_ret (pe_and (pe_cmpR op_isT (pe_typeX rfl T.n_type (pv 0)) (pe_bltn (v := .ty "str") rfl T.n_str (by decide +kernel) rfl) (nomark _)) (pe_one (pe_cmpR (k_in (K := K) rfl) (pv 0) (pe_tup (pa_cons pe_str (pa_cons pe_str pa_nil))) (by rfl)))))), ?_⟩
  refine s_retE e (ev_and (by walk_at "u_ev") fun _ => ev_op (by walk_at "u_ev") (ev_tup (by walk_at "u_ea") (by simp)) (rv_in (neg := false) rfl (Items.tup _) rfl)) ?_ ret
  cases b <;> simp [Dt.kind] <;> decide +kernel

def FrOk (a b : Int) : Prop := 1 ≤ a ∧ a ≤ 3 ∧ 1 ≤ b ∧ b ≤ 3
def g_is_frame (ds : List Dt) (d : Dt) : Prop := ∃ a b : Int, ds = [eFr a b] ∧ FrOk a b ∧ d = .bl true
theorem ok_is_frame (T : Txt K mg fa fd) : FnG P w K mg base CX0 2 (fa 12) (fd 12) ["value"] (spD g_is_frame) := by
  refine fn_D T.d_is_frame.F sc_is_frame (fun ds d h => by obtain ⟨_, _, rfl, _⟩ := h; rfl) (fun cdv Γ below s B H vs ds d Q E hg hr e ra hd ret => ?_)
  obtain ⟨a, b, rfl, ⟨h1, h2, h3, h4⟩, rfl⟩ := hd
  rcases ra with _ | ⟨r1, _ | _⟩
  obtain ⟨tk, hc_MOST_UNKNOWNS⟩ := T.k_MOST_UNKNOWNS
  refine ⟨_, (pss_one (ps_ret (pe_and (pe_go (ok_is_tuple_of T) hg (hr.mono (by decide)) rfl T.d_is_tuple_of.at_ T.d_is_tuple_of.F.kp (bn_is_tuple_of T) pass0 (pa_cons (pv 0) (pa_cons pe_int pa_nil))) (pe_one (pe_callB (k_all (K := K) rfl rfl) rfl T.n_all (by decide +kernel) (pa_cons (pe_lc (own := [("item", 1)]) (g := (gName 1)) (tt := tYes) rfl sc_is_frame.nd (k_seq (K := K) rfl (pv 0)) (blkOk_by (N := ["value", "item"]) (sc := defScope s_is_frame) (by decide +kernel)) (fun _ _ _ _ _ => (pg_name (i := 1) sc_is_frame.nd rfl (by first | exact Or.inl rfl | exact Or.inr rfl))) (fun _ _ _ _ _ => pts_nil) (fun _ _ _ _ _ => (pe_go (ok_is_within T) hg (hr.mono (by decide)) rfl T.d_is_within.at_ T.d_is_within.F.kp (bn_is_within T) pass0 (pa_cons (pv 1) (pa_cons pe_int (pa_cons (pe_glob (v := .int 3) rfl hc_MOST_UNKNOWNS ⟨_, rfl⟩) pa_nil)))))) pa_nil)))))), ?_⟩
  refine s_retE e (x := .bl (decide (((([.int a, .int b] : List Dt).length : Nat) : Int) = 2) && [a, b].all fun q => decide (1 ≤ q) && decide (q ≤ 3))) (ev_and (by walk_at "u_ev") fun _ => ev_cb (ea_cons ?_ ea_nil) rl_all) ?_ (fun v B1 H2 n1 rv => ret v B1 H2 n1 rv)
  · refine q_lc1 (l := [a, b]) (enc := Dt.int) (f := fun q => Dt.bl (decide (1 ≤ q) && decide (q ≤ 3))) (by walk_at "u_ev") (Items.tup _) (by simp) (fun _ => rfl) (fun q v B1 hm hB rv => ?_)
    cases rv
    walk_at "u_ev"
  · simp [h1, h2, h3, h4]

def g_need_frame (ds : List Dt) (d : Dt) : Prop := ∃ a b : Int, ds = [eFr a b] ∧ FrOk a b ∧ d = .non
theorem ok_need_frame (T : Txt K mg fa fd) : FnG P w K mg base CX0 3 (fa 13) (fd 13) ["frame"] (spD g_need_frame) := by
  refine fn_D T.d_need_frame.F sc_need_frame (fun ds d h => by obtain ⟨_, _, rfl, _⟩ := h; rfl) (fun cdv Γ below s B H vs ds d Q E hg hr e ra hd ret => ?_)
  obtain ⟨a, b, rfl, hf, rfl⟩ := hd
  rcases ra with _ | ⟨r1, _ | _⟩
  refine ⟨_, (pss_one (ps_if (pt_not (pt_val (pe_go (ok_is_frame T) hg (hr.mono (by decide)) rfl T.d_is_frame.at_ T.d_is_frame.F.kp (bn_is_frame T) pass0 (pa_cons (pv 0) pa_nil)))) (pss_one ps_never) pss_nil)), ?_⟩
  refine s_if (b := !true) e (ec_not (ec_v (ev_call (by walk_at "u_ea") ⟨a, b, rfl, hf, rfl⟩))) (fun hb => nomatch hb) (fun _ H1 u1 => ?_)
  exact ret _ B H1 u1.new .non

def g_on_axis (ds : List Dt) (d : Dt) : Prop := ∃ (x y : Dt) (zs : List Dt) (b : Bool), ds = [.tup (x :: y :: zs), .str (axS b)] ∧ d = if b = true then x else y
theorem axS_x {b : Bool} : decide (axS b = ("x" : Str)) = b := by cases b <;> decide +kernel
theorem ok_on_axis (T : Txt K mg fa fd) : FnG P w K mg base CX0 1 (fa 14) (fd 14) ["pair", "axis"] (spD g_on_axis) := by
  refine fn_D T.d_on_axis.F sc_on_axis (fun ds d h => by obtain ⟨_, _, _, _, rfl, _⟩ := h; rfl) (fun cdv Γ below s B H vs ds d Q E hg hr e ra hd ret => ?_)
  obtain ⟨x, y, zs, b, rfl, rfl⟩ := hd
  rcases ra with _ | ⟨r1, _ | ⟨r2, _ | _⟩⟩
  have hu := hr.units
  refine ⟨_, (pss_one (ps_ret (pe_ifExp (pt_cmpR (k_eq (K := K) rfl hu) (pv 1) pe_str (nomark _)) (pe_ix (k_ix (K := K) rfl) (pv 0) pe_int (fun _ _ => rfl)) (pe_ix (k_ix (K := K) rfl) (pv 0) pe_int (fun _ _ => rfl))))), ?_⟩
  refine s_ret e (ev_if (b := b) (EvC.is (ec_t (ev_op (ev_v rfl r2) ev_s (rv_inl rv_eqS))) axS_x) (fun hb => ?_) (fun hb => ?_)) ret
  · rw [if_pos hb]
    exact ev_op (by walk_at "u_ev") ev_i (rv_ixT (atI_nat' (m := 0) rfl))
  · rw [if_neg (by rw [hb]; exact Bool.false_ne_true)]
    exact ev_op (by walk_at "u_ev") ev_i (rv_ixT (atI_nat' (m := 1) rfl))

def g_is_amount (ds : List Dt) (d : Dt) : Prop := ∃ i : Int, ds = [.int i] ∧ d = .bl (decide (-9 ≤ i) && decide (i ≤ 9))
theorem ok_is_amount (T : Txt K mg fa fd) : FnG P w K mg base CX0 2 (fa 15) (fd 15) ["value"] (spD g_is_amount) := by
  refine fn_D T.d_is_amount.F sc_is_amount (fun ds d h => by obtain ⟨_, rfl, _⟩ := h; rfl) (fun cdv Γ below s B H vs ds d Q E hg hr e ra hd ret => ?_)
  obtain ⟨i, rfl, rfl⟩ := hd
  rcases ra with _ | ⟨r1, _ | _⟩
  obtain ⟨tk, hc_MOST_AMOUNT⟩ := T.k_MOST_AMOUNT
  refine ⟨_, (pss_one (ps_ret (pe_go (ok_is_within T) hg (hr.mono (by decide)) rfl T.d_is_within.at_ T.d_is_within.F.kp (bn_is_within T) pass0 (pa_cons (pv 0) (pa_cons (pe_un un_neg (pe_glob (v := .int 9) rfl hc_MOST_AMOUNT ⟨_, rfl⟩)) (pa_cons (pe_glob (v := .int 9) rfl hc_MOST_AMOUNT ⟨_, rfl⟩) pa_nil)))))), ?_⟩
  exact s_retE e (ev_call (by walk_at "u_ea") ⟨i, -9, 9, rfl, rfl⟩) rfl ret

def g_is_colour (ds : List Dt) (d : Dt) : Prop := ∃ i : Int, ds = [.int i] ∧ d = .bl (decide (0 ≤ i) && decide (i ≤ 9))
theorem ok_is_colour (T : Txt K mg fa fd) : FnG P w K mg base CX0 2 (fa 16) (fd 16) ["value"] (spD g_is_colour) := by
  refine fn_D T.d_is_colour.F sc_is_colour (fun ds d h => by obtain ⟨_, rfl, _⟩ := h; rfl) (fun cdv Γ below s B H vs ds d Q E hg hr e ra hd ret => ?_)
  obtain ⟨i, rfl, rfl⟩ := hd
  rcases ra with _ | ⟨r1, _ | _⟩
  obtain ⟨tk, hc_MOST_COLOUR⟩ := T.k_MOST_COLOUR
  refine ⟨_, (pss_one (ps_ret (pe_go (ok_is_within T) hg (hr.mono (by decide)) rfl T.d_is_within.at_ T.d_is_within.F.kp (bn_is_within T) pass0 (pa_cons (pv 0) (pa_cons pe_int (pa_cons (pe_glob (v := .int 9) rfl hc_MOST_COLOUR ⟨_, rfl⟩) pa_nil)))))), ?_⟩
  exact s_retE e (ev_call (by walk_at "u_ea") ⟨i, 0, 9, rfl, rfl⟩) rfl ret

def g_is_corner (ds : List Dt) (d : Dt) : Prop := ∃ (a b : Int) (ax : Bool) (c : Cor), ds = [eFr a b, .str (axS ax), eCor c] ∧ CorOk (if ax = true then a else b) c ∧ d = .bl true
theorem axI {a b : Int} {ax : Bool} : (if ax = true then Dt.int a else Dt.int b) = .int (if ax = true then a else b) := by cases ax <;> rfl
theorem ok_is_corner (T : Txt K mg fa fd) : FnG P w K mg base CX0 3 (fa 17) (fd 17) ["frame", "axis", "value"] (spD g_is_corner) := by
  refine fn_D T.d_is_corner.F sc_is_corner (fun ds d h => by obtain ⟨_, _, _, _, rfl, _⟩ := h; rfl) (fun cdv Γ below s B H vs ds d Q E hg hr e ra hd ret => ?_)
  obtain ⟨a, b, ax, c, rfl, ⟨h1, h2, h3, h4⟩, rfl⟩ := hd
  rcases ra with _ | ⟨r1, _ | ⟨r2, _ | ⟨r3, _ | _⟩⟩⟩
  refine ⟨_, (pss_cons (ps_if (pt_not (pt_val (pe_go (ok_is_tuple_of T) hg (hr.mono (by decide)) rfl T.d_is_tuple_of.at_ T.d_is_tuple_of.F.kp (bn_is_tuple_of T) pass0 (pa_cons (pv 2) (pa_cons pe_int pa_nil))))) (pss_one (ps_ret pe_bl)) pss_nil) (pss_cons (ps_asg (pv 2) (pg_tup rfl (pgs_cons (pg_name (i := 3) sc_is_corner.nd rfl (by first | exact Or.inl rfl | exact Or.inr rfl)) (pgs_cons (pg_name (i := 4) sc_is_corner.nd rfl (by first | exact Or.inl rfl | exact Or.inr rfl)) pgs_nil)))) (pss_one (ps_ret (pe_and (pe_go (ok_is_within T) hg (hr.mono (by decide)) rfl T.d_is_within.at_ T.d_is_within.F.kp (bn_is_within T) pass0 (pa_cons (pv 3) (pa_cons pe_int (pa_cons (pe_op op_sub (pe_go (ok_on_axis T) hg (hr.mono (by decide)) rfl T.d_on_axis.at_ T.d_on_axis.F.kp (bn_on_axis T) pass0 (pa_cons (pv 0) (pa_cons (pv 1) pa_nil))) pe_int) pa_nil)))) (pe_one (pe_go (ok_is_amount T) hg (hr.mono (by decide)) rfl T.d_is_amount.at_ T.d_is_amount.F.kp (bn_is_amount T) pass0 (pa_cons (pv 4) pa_nil)))))))), ?_⟩
  refine s_seq (s_if (b := !true) e (ec_not (ec_v (ev_call (by walk_at "u_ea") ⟨[.int c.1, .int c.2], 2, rfl, rfl⟩))) (fun hb => nomatch hb) fun _ H1 u1 => ?_)
  walk_at "u_n"
  refine s_seq (s_asg2 u1.sub (ev_v rfl r3) fun v w B1 H2 n1 rv rw => ?_)
  walk_at "u_n"
  cases rv; cases rw
  have r1' := r1.mono n1.ext
  have r2' := r2.mono n1.ext
  refine s_retE n1.sub (ev_and (ev_call (ds := [.int c.1, .int 0, .int ((if ax = true then a else b) - 1)]) (ea_cons (ev_v rfl (.int _)) (ea_cons ev_i (ea_cons (ev_op ((ev_call (by walk_at "u_ea") ⟨.int a, .int b, [], ax, rfl, rfl⟩).is axI) ev_i rv_sub) ea_nil))) ⟨_, _, _, rfl, rfl⟩) fun _ => ev_call (by walk_at "u_ea") ⟨c.2, rfl, rfl⟩) ?_ (fun v B1 H2 n2 rv => ret v B1 H2 ((u1.new.trans n1).trans n2) rv)
  have e1 : decide (0 ≤ c.1) = true := decide_eq_true h1
  have e2 : decide (c.1 ≤ (if ax = true then a else b) - 1) = true := decide_eq_true (by omega)
  have e3 : decide (-9 ≤ c.2) = true := decide_eq_true h3
  have e4 : decide (c.2 ≤ 9) = true := decide_eq_true h4
  rw [e1, e2, e3, e4]
  rfl

def g_is_box (ds : List Dt) (d : Dt) : Prop := ∃ (a b : Int) (x : Bx), ds = [eFr a b, eBx x] ∧ BxOk a b x ∧ d = .bl true
def bxL (x : Bx) : List (Bool × Cor) := [(true, x.l), (true, x.r), (false, x.t), (false, x.b)]
theorem zip_bx (x : Bx) : zipS "xxyy" [eCor x.l, eCor x.r, eCor x.t, eCor x.b] = (bxL x).map fun p => .tup [.str (axS p.1), eCor p.2] := by
  kernel_rfl
theorem goes_bx {σ : L2.St} {B : Hp} {tl : TA} {x : Bx} (h : EvRA tl σ B [.str "xxyy", eBx x]) : GoesN (iZipS K tl) σ B ((bxL x).map fun p => .tup [.str (axS p.1), eCor p.2]) := by
  rw [← zip_bx]
  exact goesN_zipS h
theorem ok_is_box (T : Txt K mg fa fd) : FnG P w K mg base CX0 4 (fa 18) (fd 18) ["frame", "value"] (spD g_is_box) := by
  refine fn_D T.d_is_box.F sc_is_box (fun ds d h => by obtain ⟨_, _, _, rfl, _⟩ := h; rfl) (fun cdv Γ below s B H vs ds d Q E hg hr e ra hd ret => ?_)
  obtain ⟨a, b, x, rfl, ⟨h1, h2, h3, h4⟩, rfl⟩ := hd
  rcases ra with _ | ⟨r1, _ | ⟨r2, _ | _⟩⟩
  refine ⟨_, (pss_cons (ps_if (pt_not (pt_val (pe_go (ok_is_tuple_of T) hg (hr.mono (by decide)) rfl T.d_is_tuple_of.at_ T.d_is_tuple_of.F.kp (bn_is_tuple_of T) pass0 (pa_cons (pv 1) (pa_cons pe_int pa_nil))))) (pss_one (ps_ret pe_bl)) pss_nil) (pss_one (ps_ret (pe_callB (k_all (K := K) rfl rfl) rfl T.n_all (by decide +kernel) (pa_cons (pe_lc (own := [("axis", 2), ("corner", 3)]) (g := (gTup K 2 (gCons (gName 2) (gCons (gName 3) gNil)))) (tt := tYes) rfl sc_is_box.nd (k_zipS (K := K) rfl rfl T.n_zip (pa_cons pe_str (pa_cons (pv 1) pa_nil))) (blkOk_by (N := ["frame", "value", "axis", "corner"]) (sc := defScope s_is_box) (by decide +kernel)) (fun _ _ _ _ _ => (pg_tup rfl (pgs_cons (pg_name (i := 2) sc_is_box.nd rfl (by first | exact Or.inl rfl | exact Or.inr rfl)) (pgs_cons (pg_name (i := 3) sc_is_box.nd rfl (by first | exact Or.inl rfl | exact Or.inr rfl)) pgs_nil)))) (fun _ _ _ _ _ => pts_nil) (fun _ _ _ _ _ => (pe_go (ok_is_corner T) hg (hr.mono (by decide)) rfl T.d_is_corner.at_ T.d_is_corner.F.kp (bn_is_corner T) pass0 (pa_cons (pv 0) (pa_cons (pv 2) (pa_cons (pv 3) pa_nil)))))) pa_nil))))), ?_⟩
  refine s_seq (s_if (b := !true) e (ec_not (ec_v (ev_call (by walk_at "u_ea") ⟨[eCor x.l, eCor x.r, eCor x.t, eCor x.b], 4, rfl, rfl⟩))) (fun hb => nomatch hb) fun _ H1 u1 => ?_)
  walk_at "u_n"
  refine s_retE (d := .bl true) u1.sub (ev_cb (ea_cons (EvL.toR (el_lcN1 (f := fun _ => .bl true) (goes_bx (by walk_at "u_ea")) (by show 4 < 100000; decide) (fun q v B1 H2 k' hm e1 e2 rv go => ?_))) ea_nil) (rl_all (p := fun _ => true) (l := bxL x))) rfl (fun v B1 H2 n2 rv => ret v B1 H2 (u1.new.trans n2) rv)
  have hq : CorOk (if q.1 = true then a else b) q.2 := by
    simp only [bxL, List.mem_cons, List.not_mem_nil, or_false] at hm
    rcases hm with rfl | rfl | rfl | rfl
    · exact h1
    · exact h2
    · exact h3
    · exact h4
  refine g_tupR e2 rv rfl fun vs ra => g_consR ra fun v1 ws r3 ra => g_consR ra fun v2 ws2 r4 ra => g_nilR ra ?_
  refine go _ rfl ?_
  exact ev_call (ea_cons (ev_v rfl (r1.mono e1)) (ea_cons (ev_v rfl r3) (ea_cons (ev_v rfl r4) ea_nil))) ⟨a, b, q.1, q.2, rfl, hq, rfl⟩

def g_is_test (ds : List Dt) (d : Dt) : Prop := ∃ (a b : Int) (ax : Bool) (p q : Cor), ds = [eFr a b, .str (axS ax), eCor p, eCor q] ∧ CorOk (if ax = true then a else b) p ∧ CorOk (if ax = true then a else b) q ∧ d = .bl true
theorem ok_is_test (T : Txt K mg fa fd) : FnG P w K mg base CX0 4 (fa 19) (fd 19) ["frame", "axis", "first", "second"] (spD g_is_test) := by
  refine fn_D T.d_is_test.F sc_is_test (fun ds d h => by obtain ⟨_, _, _, _, _, rfl, _⟩ := h; rfl) (fun cdv Γ below s B H vs ds d Q E hg hr e ra hd ret => ?_)
  obtain ⟨a, b, ax, p, q, rfl, h1, h2, rfl⟩ := hd
  rcases ra with _ | ⟨r1, _ | ⟨r2, _ | ⟨r3, _ | ⟨r4, _ | _⟩⟩⟩⟩
  refine ⟨_, (pss_one (ps_ret (pe_and (pe_go (ok_is_axis T) hg (hr.mono (by decide)) rfl T.d_is_axis.at_ T.d_is_axis.F.kp (bn_is_axis T) pass0 (pa_cons (pv 1) pa_nil)) (pe_and (pe_go (ok_is_corner T) hg (hr.mono (by decide)) rfl T.d_is_corner.at_ T.d_is_corner.F.kp (bn_is_corner T) pass0 (pa_cons (pv 0) (pa_cons (pv 1) (pa_cons (pv 2) pa_nil)))) (pe_one (pe_go (ok_is_corner T) hg (hr.mono (by decide)) rfl T.d_is_corner.at_ T.d_is_corner.F.kp (bn_is_corner T) pass0 (pa_cons (pv 0) (pa_cons (pv 1) (pa_cons (pv 3) pa_nil))))))))), ?_⟩
  exact s_retE e (ev_and (ev_call (by walk_at "u_ea") ⟨ax, rfl, rfl⟩) fun _ => ev_and (ev_call (by walk_at "u_ea") ⟨a, b, ax, p, rfl, h1, rfl⟩) fun _ => ev_call (by walk_at "u_ea") ⟨a, b, ax, q, rfl, h2, rfl⟩) rfl ret

def g_is_statement (n : Nat) (ds : List Dt) (d : Dt) : Prop := ∃ (a b : Int) (s : Sm), ds = [eFr a b, eSt s] ∧ FrOk a b ∧ okS a b (okP a b n) s ∧ szS s ≤ 1000 ∧ d = .bl true
def g_is_program (n : Nat) (ds : List Dt) (d : Dt) : Prop := ∃ (a b : Int) (ss : List Sm), ds = [eFr a b, .tup (ePg ss)] ∧ FrOk a b ∧ okP a b n ss ∧ szP ss ≤ 1000 ∧ d = .bl true
theorem st_is_statement (T : Txt K mg fa fd) {n k : Nat} (hk : 4 ≤ k) (rec_is_program : FnG P w K mg base CX0 k (fa 21) (fd 21) ["frame", "value"] (spD (g_is_program n))) : FnG P w K mg base CX0 (k + 1) (fa 20) (fd 20) ["frame", "value"] (spD (g_is_statement n)) := by
  refine fn_D T.d_is_statement.F sc_is_statement (fun ds d h => by obtain ⟨_, _, _, rfl, _⟩ := h; rfl) (fun cdv Γ below s B H vs ds d Q E hg hr e ra hd ret => ?_)
  obtain ⟨a, b, st, rfl, hf, hok, hsz, rfl⟩ := hd
  rcases ra with _ | ⟨r1, _ | ⟨r2, _ | _⟩⟩
  have hu := hr.units
  refine ⟨_, (pss_cons (ps_if (PW.pt (pw_or (pt_cmpR op_isNotTy (pe_typeX rfl T.n_type (pv 1)) (pe_bltn (v := .ty "tuple") rfl T.n_tuple (by decide +kernel) rfl) (nomark _)) (pw_or1 (pt_cmpR (k_eq (K := K) rfl hu) (pe_callB (k_len (K := K) rfl) rfl T.n_len (by decide +kernel) (pa_cons (pv 1) pa_nil)) pe_int (nomark _))))) (pss_one (ps_ret pe_bl)) pss_nil) (pss_cons (ps_asg (pv 1) (pg_star (n := 2) (i := 1) rfl (pgs_cons (pg_name (i := 2) sc_is_statement.nd rfl (by first | exact Or.inl rfl | exact Or.inr rfl)) (pgs_star (pg_name (i := 3) sc_is_statement.nd rfl (by first | exact Or.inl rfl | exact Or.inr rfl)) pgs_nil)))) (pss_cons (ps_if (pt_cmpR op_isNotTy (pe_typeX rfl T.n_type (pv 2)) (pe_bltn (v := .ty "str") rfl T.n_str (by decide +kernel) rfl) (nomark _)) (pss_one (ps_ret pe_bl)) pss_nil) (pss_cons (ps_if (pt_cmpR (k_eq (K := K) rfl hu) (pv 2) pe_str (nomark _)) (pss_one (ps_ret (pe_and (pe_cmpR (k_eq (K := K) rfl hu) (pe_callB (k_len (K := K) rfl) rfl T.n_len (by decide +kernel) (pa_cons (pv 3) pa_nil)) pe_int (nomark _)) (pe_and (pe_go (ok_is_box T) hg (hr.mono (by omega)) rfl T.d_is_box.at_ T.d_is_box.F.kp (bn_is_box T) pass0 (pa_cons (pv 0) (pa_cons (pe_ix (k_ix (K := K) rfl) (pv 3) pe_int (fun _ _ => rfl)) pa_nil))) (pe_one (pe_go (ok_is_colour T) hg (hr.mono (by omega)) rfl T.d_is_colour.at_ T.d_is_colour.F.kp (bn_is_colour T) pass0 (pa_cons (pe_ix (k_ix (K := K) rfl) (pv 3) pe_int (fun _ _ => rfl)) pa_nil))))))) pss_nil) (pss_cons (ps_if (pt_cmpR (k_eq (K := K) rfl hu) (pv 2) pe_str (nomark _)) (pss_one (ps_ret (pe_and (pe_cmpR (k_eq (K := K) rfl hu) (pe_callB (k_len (K := K) rfl) rfl T.n_len (by decide +kernel) (pa_cons (pv 3) pa_nil)) pe_int (nomark _)) (pe_and (pe_go (ok_is_box T) hg (hr.mono (by omega)) rfl T.d_is_box.at_ T.d_is_box.F.kp (bn_is_box T) pass0 (pa_cons (pv 0) (pa_cons (pe_ix (k_ix (K := K) rfl) (pv 3) pe_int (fun _ _ => rfl)) pa_nil))) (pe_one (pe_go rec_is_program hg (hr.mono (by omega)) rfl T.d_is_program.at_ T.d_is_program.F.kp (bn_is_program T) pass0 (pa_cons (pv 0) (pa_cons (pe_ix (k_ix (K := K) rfl) (pv 3) pe_int (fun _ _ => rfl)) pa_nil)))))))) pss_nil) (pss_cons (ps_if (pt_cmpR (k_eq (K := K) rfl hu) (pv 2) pe_str (nomark _)) (pss_one (ps_ret (pe_and (pe_cmpR (k_eq (K := K) rfl hu) (pe_callB (k_len (K := K) rfl) rfl T.n_len (by decide +kernel) (pa_cons (pv 3) pa_nil)) pe_int (nomark _)) (pe_and (pe_go (ok_is_amount T) hg (hr.mono (by omega)) rfl T.d_is_amount.at_ T.d_is_amount.F.kp (bn_is_amount T) pass0 (pa_cons (pe_ix (k_ix (K := K) rfl) (pv 3) pe_int (fun _ _ => rfl)) pa_nil)) (pe_and (pe_go (ok_is_amount T) hg (hr.mono (by omega)) rfl T.d_is_amount.at_ T.d_is_amount.F.kp (bn_is_amount T) pass0 (pa_cons (pe_ix (k_ix (K := K) rfl) (pv 3) pe_int (fun _ _ => rfl)) pa_nil)) (pe_one (pe_go rec_is_program hg (hr.mono (by omega)) rfl T.d_is_program.at_ T.d_is_program.F.kp (bn_is_program T) pass0 (pa_cons (pv 0) (pa_cons (pe_ix (k_ix (K := K) rfl) (pv 3) pe_int (fun _ _ => rfl)) pa_nil))))))))) pss_nil) (pss_one (ps_ret (pe_and (pe_cmpR (k_eq (K := K) rfl hu) (pv 2) pe_str (nomark _)) (pe_and (pe_cmpR (k_eq (K := K) rfl hu) (pe_callB (k_len (K := K) rfl) rfl T.n_len (by decide +kernel) (pa_cons (pv 3) pa_nil)) pe_int (nomark _)) (pe_and (pe_go (ok_is_test T) hg (hr.mono (by omega)) rfl T.d_is_test.at_ T.d_is_test.F.kp (bn_is_test T) pass0 (pa_cons (pv 0) (pa_cons (pe_ix (k_ix (K := K) rfl) (pv 3) pe_int (fun _ _ => rfl)) (pa_cons (pe_ix (k_ix (K := K) rfl) (pv 3) pe_int (fun _ _ => rfl)) (pa_cons (pe_ix (k_ix (K := K) rfl) (pv 3) pe_int (fun _ _ => rfl)) pa_nil))))) (pe_and (pe_go rec_is_program hg (hr.mono (by omega)) rfl T.d_is_program.at_ T.d_is_program.F.kp (bn_is_program T) pass0 (pa_cons (pv 0) (pa_cons (pe_ix (k_ix (K := K) rfl) (pv 3) pe_int (fun _ _ => rfl)) pa_nil))) (pe_one (pe_go rec_is_program hg (hr.mono (by omega)) rfl T.d_is_program.at_ T.d_is_program.F.kp (bn_is_program T) pass0 (pa_cons (pv 0) (pa_cons (pe_ix (k_ix (K := K) rfl) (pv 3) pe_int (fun _ _ => rfl)) pa_nil)))))))))))))))), ?_⟩
  rw [eSt_eq] at r2
  refine s_seq (s_if (b := false) e ((ec_or (ec_t (ev_notTy (ev_v rfl r2) rfl)) fun _ => ec_t (ev_op (ev_cb (ea_cons (ev_v rfl r2) ea_nil) rl_lenT) ev_i (rv_inl rv_eqI))).is (by simp [Dt.kind]; omega)) (fun z => nomatch z) fun _ H1 u1 => ?_)
  walk_at "u_n"
  refine s_seq (s_asgStar u1.sub (ev_v rfl r2) (Nat.le_trans (psS_len st) (by decide)) fun v p vs B1 H2 n1 o1 rv rvs => ?_)
  walk_at "u_n"
  cases rv
  have n2 := n1.give o1
  have rp := o1.data rvs
  have r1' := r1.mono n2.ext
  refine s_seq (s_if (b := false) n2.sub ((ec_t (ev_notTy (ev_v rfl (.str _)) rfl)).is (by simp [Dt.kind])) (fun z => nomatch z) fun _ H3 u3 => ?_)
  walk_at "u_n"
  have N3 := (u1.new.trans n2).trans u3.new
  cases st with
  | fill bx c =>
    obtain ⟨hb, h1, h2⟩ := hok
    refine s_seq (s_if (b := true) N3.sub ((ec_t (ev_op (ev_v rfl (.str _)) ev_s (rv_inl rv_eqS))).is (by walk_at "wdk")) (fun _ H4 u4 => ?_) (fun z => nomatch z))
    refine s_retE u4.sub (ev_and (ev_op (ev_cb (ea_cons (ev_v rfl rp) ea_nil) rl_lenL) ev_i (rv_inl rv_eqI)) fun _ => ev_and (ev_call (ea_cons (ev_v rfl r1') (ea_cons (ev_op (ev_v rfl rp) ev_i (rv_ixL rfl)) ea_nil)) ⟨a, b, bx, rfl, hb, rfl⟩) fun _ => ev_call (ea_cons (ev_op (ev_v rfl rp) ev_i (rv_ixL rfl)) ea_nil) ⟨c, rfl, rfl⟩) ?_ (fun v B4 H5 n5 rv => ret v B4 H5 (N3.trans (u4.new.trans n5)) rv)
    rw [decide_eq_true h1, decide_eq_true h2]
    rfl
  | clip bx ss =>
    obtain ⟨hb, hp⟩ := hok
    rw [szS] at hsz
    refine s_seq (s_if (b := false) N3.sub ((ec_t (ev_op (ev_v rfl (.str _)) ev_s (rv_inl rv_eqS))).is (by walk_at "wdk")) (fun z => nomatch z) (fun _ H4 u4 => ?_))
    walk_at "u_n"
    refine s_seq (s_if (b := true) u4.sub ((ec_t (ev_op (ev_v rfl (.str _)) ev_s (rv_inl rv_eqS))).is (by walk_at "wdk")) (fun _ H5 u5 => ?_) (fun z => nomatch z))
    exact s_retE u5.sub (ev_and (ev_op (ev_cb (ea_cons (ev_v rfl rp) ea_nil) rl_lenL) ev_i (rv_inl rv_eqI)) fun _ => ev_and (ev_call (ea_cons (ev_v rfl r1') (ea_cons (ev_op (ev_v rfl rp) ev_i (rv_ixL rfl)) ea_nil)) ⟨a, b, bx, rfl, hb, rfl⟩) fun _ => ev_call (ea_cons (ev_v rfl r1') (ea_cons (ev_op (ev_v rfl rp) ev_i (rv_ixL rfl)) ea_nil)) ⟨a, b, ss, rfl, hf, hp, by omega, rfl⟩) rfl (fun v B4 H6 n6 rv => ret v B4 H6 (((N3.trans u4.new).trans u5.new).trans n6) rv)
  | move dx dy ss =>
    obtain ⟨h1, h2, h3, h4, hp⟩ := hok
    rw [szS] at hsz
    refine s_seq (s_if (b := false) N3.sub ((ec_t (ev_op (ev_v rfl (.str _)) ev_s (rv_inl rv_eqS))).is (by walk_at "wdk")) (fun z => nomatch z) (fun _ H4 u4 => ?_))
    walk_at "u_n"
    refine s_seq (s_if (b := false) u4.sub ((ec_t (ev_op (ev_v rfl (.str _)) ev_s (rv_inl rv_eqS))).is (by walk_at "wdk")) (fun z => nomatch z) (fun _ H5 u5 => ?_))
    walk_at "u_n"
    refine s_seq (s_if (b := true) u5.sub ((ec_t (ev_op (ev_v rfl (.str _)) ev_s (rv_inl rv_eqS))).is (by walk_at "wdk")) (fun _ H6 u6 => ?_) (fun z => nomatch z))
    refine s_retE u6.sub (ev_and (ev_op (ev_cb (ea_cons (ev_v rfl rp) ea_nil) rl_lenL) ev_i (rv_inl rv_eqI)) fun _ => ev_and (ev_call (ea_cons (ev_op (ev_v rfl rp) ev_i (rv_ixL rfl)) ea_nil) ⟨dx, rfl, rfl⟩) fun _ => ev_and (ev_call (ea_cons (ev_op (ev_v rfl rp) ev_i (rv_ixL rfl)) ea_nil) ⟨dy, rfl, rfl⟩) fun _ => ev_call (ea_cons (ev_v rfl r1') (ea_cons (ev_op (ev_v rfl rp) ev_i (rv_ixL rfl)) ea_nil)) ⟨a, b, ss, rfl, hf, hp, by omega, rfl⟩) ?_ (fun v B4 H7 n7 rv => ret v B4 H7 ((((N3.trans u4.new).trans u5.new).trans u6.new).trans n7) rv)
    rw [decide_eq_true h1, decide_eq_true h2, decide_eq_true h3, decide_eq_true h4]
    rfl
  | iff ax p q c d =>
    obtain ⟨h1, h2, hp, hq⟩ := hok
    rw [szS] at hsz
    refine s_seq (s_if (b := false) N3.sub ((ec_t (ev_op (ev_v rfl (.str _)) ev_s (rv_inl rv_eqS))).is (by walk_at "wdk")) (fun z => nomatch z) (fun _ H4 u4 => ?_))
    walk_at "u_n"
    refine s_seq (s_if (b := false) u4.sub ((ec_t (ev_op (ev_v rfl (.str _)) ev_s (rv_inl rv_eqS))).is (by walk_at "wdk")) (fun z => nomatch z) (fun _ H5 u5 => ?_))
    walk_at "u_n"
    refine s_seq (s_if (b := false) u5.sub ((ec_t (ev_op (ev_v rfl (.str _)) ev_s (rv_inl rv_eqS))).is (by walk_at "wdk")) (fun z => nomatch z) (fun _ H6 u6 => ?_))
    walk_at "u_n"
    refine s_retE u6.sub (ev_and (ev_op (ev_v rfl (.str _)) ev_s (rv_inl rv_eqS)) fun _ => ev_and (ev_op (ev_cb (ea_cons (ev_v rfl rp) ea_nil) rl_lenL) ev_i (rv_inl rv_eqI)) fun _ => ev_and (ev_call (ea_cons (ev_v rfl r1') (ea_cons (ev_op (ev_v rfl rp) ev_i (rv_ixL rfl)) (ea_cons (ev_op (ev_v rfl rp) ev_i (rv_ixL rfl)) (ea_cons (ev_op (ev_v rfl rp) ev_i (rv_ixL rfl)) ea_nil)))) ⟨a, b, ax, p, q, rfl, h1, h2, rfl⟩) fun _ =>
      ev_and (ev_call (ea_cons (ev_v rfl r1') (ea_cons (ev_op (ev_v rfl rp) ev_i (rv_ixL rfl)) ea_nil)) ⟨a, b, c, rfl, hf, hp, by omega, rfl⟩) fun _ => ev_call (ea_cons (ev_v rfl r1') (ea_cons (ev_op (ev_v rfl rp) ev_i (rv_ixL rfl)) ea_nil)) ⟨a, b, d, rfl, hf, hq, by omega, rfl⟩) ?_ (fun v B4 H7 n7 rv => ret v B4 H7 ((((N3.trans u4.new).trans u5.new).trans u6.new).trans n7) rv)
    congr 1

theorem st_is_program (T : Txt K mg fa fd) {n k : Nat} (hk : 4 ≤ k) (rec_is_statement : FnG P w K mg base CX0 k (fa 20) (fd 20) ["frame", "value"] (spD (g_is_statement n))) : FnG P w K mg base CX0 (k + 1) (fa 21) (fd 21) ["frame", "value"] (spD (g_is_program (n + 1))) := by
  refine fn_D T.d_is_program.F sc_is_program (fun ds d h => by obtain ⟨_, _, _, rfl, _⟩ := h; rfl) (fun cdv Γ below s B H vs ds d Q E hg hr e ra hd ret => ?_)
  obtain ⟨a, b, ss, rfl, hf, hok, hsz, rfl⟩ := hd
  rcases ra with _ | ⟨r1, _ | ⟨r2, _ | _⟩⟩
  have hu := hr.units
  have hl := len_szP ss
  refine ⟨_, (pss_cons (ps_expr (pe_go (ok_need_frame T) hg (hr.mono (by omega)) rfl T.d_need_frame.at_ T.d_need_frame.F.kp (bn_need_frame T) pass0 (pa_cons (pv 0) pa_nil))) (pss_one (ps_ret (pe_and (pe_cmpR op_isT (pe_typeX rfl T.n_type (pv 1)) (pe_bltn (v := .ty "tuple") rfl T.n_tuple (by decide +kernel) rfl) (nomark _)) (pe_one (pe_callB (k_all (K := K) rfl rfl) rfl T.n_all (by decide +kernel) (pa_cons (pe_lc (own := [("item", 2)]) (g := (gName 2)) (tt := tYes) rfl sc_is_program.nd (k_seq (K := K) rfl (pv 1)) (blkOk_by (N := ["frame", "value", "item"]) (sc := defScope s_is_program) (by decide +kernel)) (fun _ _ _ _ _ => (pg_name (i := 2) sc_is_program.nd rfl (by first | exact Or.inl rfl | exact Or.inr rfl))) (fun _ _ _ _ _ => pts_nil) (fun _ _ _ _ _ => (pe_go rec_is_statement hg (hr.mono (by omega)) rfl T.d_is_statement.at_ T.d_is_statement.F.kp (bn_is_statement T) pass0 (pa_cons (pv 0) (pa_cons (pv 2) pa_nil))))) pa_nil))))))), ?_⟩
  refine s_seq (s_drop e (ev_call (by walk_at "u_ea") ⟨a, b, rfl, hf, rfl⟩) fun H1 u1 => ?_)
  walk_at "u_n"
  rw [ePg_map] at r2
  refine s_retE u1.sub (ev_and (ev_isTy (ev_v rfl r2)) fun _ => ev_cb (ea_cons (q_lc1 (l := ss) (enc := eSt) (f := fun _ => .bl true) (ev_v rfl r2) (Items.tup _) (by omega) (fun _ => rfl) (fun q v B1 hm hB rv => ?_)) ea_nil) (rl_all (p := fun _ => true))) ?_ (fun v B1 H2 n1 rv => ret v B1 H2 (u1.new.trans n1) rv)
  · have := szP_le hm
    exact ev_call (ea_cons (ev_v rfl (r1.mono hB)) (ea_cons (ev_v rfl rv) ea_nil)) ⟨a, b, q, rfl, hf, hok q hm, by omega, rfl⟩
  · simp [Dt.kind]
theorem ok_is_program_n (T : Txt K mg fa fd) : ∀ n : Nat, FnG P w K mg base CX0 (5 + 2 * n) (fa 21) (fd 21) ["frame", "value"] (spD (g_is_program n))
  | 0 => fn_vac fun ds d h => by obtain ⟨_, _, _, _, _, h, _⟩ := h; exact h
  | n + 1 => st_is_program T (k := 5 + 2 * n + 1) (by omega) (st_is_statement T (k := 5 + 2 * n) (by omega) (ok_is_program_n T n))
theorem ok_is_program (T : Txt K mg fa fd) : FnG P w K mg base CX0 22 (fa 21) (fd 21) ["frame", "value"] (spD (g_is_program 8)) := (ok_is_program_n T 8).up (by decide)

def g_need_program (ds : List Dt) (d : Dt) : Prop := ∃ (a b : Int) (ss : List Sm), ds = [eFr a b, .tup (ePg ss)] ∧ FrOk a b ∧ okP a b 8 ss ∧ szP ss ≤ 1000 ∧ d = .non
theorem ok_need_program (T : Txt K mg fa fd) : FnG P w K mg base CX0 23 (fa 22) (fd 22) ["frame", "program"] (spD g_need_program) := by
  refine fn_D T.d_need_program.F sc_need_program (fun ds d h => by obtain ⟨_, _, _, rfl, _⟩ := h; rfl) (fun cdv Γ below s B H vs ds d Q E hg hr e ra hd ret => ?_)
  obtain ⟨a, b, ss, rfl, hf, hok, hsz, rfl⟩ := hd
  rcases ra with _ | ⟨r1, _ | ⟨r2, _ | _⟩⟩
  refine ⟨_, (pss_one (ps_if (pt_not (pt_val (pe_go (ok_is_program T) hg (hr.mono (by decide)) rfl T.d_is_program.at_ T.d_is_program.F.kp (bn_is_program T) pass0 (pa_cons (pv 0) (pa_cons (pv 1) pa_nil))))) (pss_one ps_never) pss_nil)), ?_⟩
  refine s_if (b := !true) e (ec_not (ec_v (ev_call (by walk_at "u_ea") ⟨a, b, ss, rfl, hf, hok, hsz, rfl⟩))) (fun hb => nomatch hb) (fun _ H1 u1 => ?_)
  exact ret _ B H1 u1.new .non

def g_moved_further (ds : List Dt) (d : Dt) : Prop := ∃ (mv : Int × Int) (s : Sm), ds = [eFr mv.1 mv.2, eSt s] ∧ d = eFr (mvS s mv).1 (mvS s mv).2
theorem ok_moved_further (T : Txt K mg fa fd) : FnG P w K mg base CX0 1 (fa 23) (fd 23) ["moved", "statement"] (spD g_moved_further) := by
  refine fn_D T.d_moved_further.F sc_moved_further (fun ds d h => by obtain ⟨_, _, rfl, _⟩ := h; rfl) (fun cdv Γ below s B H vs ds d Q E hg hr e ra hd ret => ?_)
  obtain ⟨mv, st, rfl, rfl⟩ := hd
  rcases ra with _ | ⟨r1, _ | ⟨r2, _ | _⟩⟩
  have hu := hr.units
  refine ⟨_, (pss_cons (ps_if (pt_cmpR (k_ne (K := K) rfl hu) (pe_ix (k_ix (K := K) rfl) (pv 1) pe_int (fun _ _ => rfl)) pe_str (nomark _)) (pss_one (ps_ret (pv 0))) pss_nil) (pss_one (ps_ret (pe_tup (pa_cons (pe_op op_addA (pe_ix (k_ix (K := K) rfl) (pv 0) pe_int (fun _ _ => rfl)) (pe_ix (k_ix (K := K) rfl) (pv 1) pe_int (fun _ _ => rfl))) (pa_cons (pe_op op_addA (pe_ix (k_ix (K := K) rfl) (pv 0) pe_int (fun _ _ => rfl)) (pe_ix (k_ix (K := K) rfl) (pv 1) pe_int (fun _ _ => rfl))) pa_nil)))))), ?_⟩
  rw [eSt_eq] at r2
  have t : ∀ s : Sm, (!decide (wdS s = "move")) = (match s with | .move _ _ _ => false | _ => true) := fun s => by
    cases s <;> first | exact congrArg not (decide_eq_true rfl) | exact congrArg not (decide_eq_false wd_fm) | exact congrArg not (decide_eq_false wd_cm) | exact congrArg not (decide_eq_false wd_im)
  refine s_seq (s_if e ((ec_t (ev_op (ev_op (ev_v rfl r2) ev_i (rv_ixT (atI_nat' (m := 0) rfl))) ev_s (rv_inl rv_neS))).is (t st)) (fun hb H1 u1 => ?_) fun hb H1 u1 => ?_)
  · refine s_ret (d := eFr mv.1 mv.2) u1.sub (ev_v rfl r1) fun v B1 H2 n rv => ret v B1 H2 (u1.new.trans n) ?_
    cases st with
    | move _ _ _ => cases hb
    | _ => exact rv
  · walk_at "u_n"
    cases st with
    | move dx dy ss => exact s_retE u1.sub (ev_tup (ea_cons (ev_op (ev_op (ev_v rfl r1) ev_i (rv_ixT rfl)) (ev_op (ev_v rfl r2) ev_i (rv_ixT rfl)) (rv_inl rv_add)) (ea_cons (ev_op (ev_op (ev_v rfl r1) ev_i (rv_ixT rfl)) (ev_op (ev_v rfl r2) ev_i (rv_ixT rfl)) (rv_inl rv_add)) ea_nil)) (by simp)) rfl fun v B1 H2 n rv => ret v B1 H2 (u1.new.trans n) rv
    | _ => cases hb

def g_is_row (ds : List Dt) (d : Dt) : Prop := ∃ (ns : List Int) (n : Int), ds = [eI ns, .int n] ∧ (ns.length : Int) = n ∧ ns.length < 1000 ∧ d = .bl true
theorem ok_is_row (T : Txt K mg fa fd) : FnG P w K mg base CX0 1 (fa 25) (fd 25) ["value", "many"] (spD g_is_row) := by
  refine fn_D T.d_is_row.F sc_is_row (fun ds d h => by obtain ⟨_, _, rfl, _⟩ := h; rfl) (fun cdv Γ below s B H vs ds d Q E hg hr e ra hd ret => ?_)
  obtain ⟨ns, n, rfl, hn, hl, rfl⟩ := hd
  rcases ra with _ | ⟨r1, _ | ⟨r2, _ | _⟩⟩
  cases r2
  have hu := hr.units
  refine ⟨_, (pss_one (ps_ret (pe_and (pe_cmpR op_isT (pe_typeX rfl T.n_type (pv 0)) (pe_bltn (v := .ty "list") rfl T.n_list (by decide +kernel) rfl) (nomark _)) (pe_and (pe_cmpR (k_eq (K := K) rfl hu) (pe_callB (k_len (K := K) rfl) rfl T.n_len (by decide +kernel) (pa_cons (pv 0) pa_nil)) (pv 1) (nomark _)) (pe_one (pe_callB (k_all (K := K) rfl rfl) rfl T.n_all (by decide +kernel) (pa_cons (pe_lc (own := [("item", 2)]) (g := (gName 2)) (tt := tYes) rfl sc_is_row.nd (k_seq (K := K) rfl (pv 0)) (blkOk_by (N := ["value", "many", "item"]) (sc := defScope s_is_row) (by decide +kernel)) (fun _ _ _ _ _ => (pg_name (i := 2) sc_is_row.nd rfl (by first | exact Or.inl rfl | exact Or.inr rfl))) (fun _ _ _ _ _ => pts_nil) (fun _ _ _ _ _ => (pe_cmpR op_isT (pe_typeX rfl T.n_type (pv 2)) (pe_bltn (v := .ty "int") rfl T.n_int (by decide +kernel) rfl) (nomark _)))) pa_nil))))))), ?_⟩
  refine s_retE e (ev_and (by walk_at "u_ev") fun _ => ev_and (by walk_at "u_ev") fun _ => ev_cb (ea_cons (q_lc1 (l := ns) (enc := Dt.int) (f := fun q => Dt.bl (decide ((Dt.int q).kind = "int"))) (by walk_at "u_ev") (Items.lst _) (by omega) (fun _ => rfl) (fun q v B1 hm hB rv => ?_)) ea_nil) rl_all) ?_ (fun v B1 H2 n1 rv => ret v B1 H2 n1 rv)
  · cases rv
    walk_at "u_ev"
  · simp [Dt.kind, hn]

def SetOk (a b : Int) (p q : List Int) : Prop := (p.length : Int) = a ∧ (q.length : Int) = b ∧ FrOk a b
def g_is_setting (ds : List Dt) (d : Dt) : Prop := ∃ (a b : Int) (p q : List Int), ds = [eFr a b, eSet p q] ∧ SetOk a b p q ∧ d = .bl true
theorem ok_is_setting (T : Txt K mg fa fd) : FnG P w K mg base CX0 4 (fa 26) (fd 26) ["frame", "value"] (spD g_is_setting) := by
  refine fn_D T.d_is_setting.F sc_is_setting (fun ds d h => by obtain ⟨_, _, _, _, rfl, _⟩ := h; rfl) (fun cdv Γ below s B H vs ds d Q E hg hr e ra hd ret => ?_)
  obtain ⟨a, b, p, q, rfl, ⟨h1, h2, hf⟩, rfl⟩ := hd
  rcases ra with _ | ⟨r1, _ | ⟨r2, _ | _⟩⟩
  have hl1 : p.length < 1000 := by have := hf.2.1; omega
  have hl2 : q.length < 1000 := by have := hf.2.2.2; omega
  refine ⟨_, (pss_cons (ps_expr (pe_go (ok_need_frame T) hg (hr.mono (by decide)) rfl T.d_need_frame.at_ T.d_need_frame.F.kp (bn_need_frame T) pass0 (pa_cons (pv 0) pa_nil))) (pss_one (ps_ret (pe_and (pe_go (ok_is_tuple_of T) hg (hr.mono (by decide)) rfl T.d_is_tuple_of.at_ T.d_is_tuple_of.F.kp (bn_is_tuple_of T) pass0 (pa_cons (pv 1) (pa_cons pe_int pa_nil))) (pe_and (pe_go (ok_is_row T) hg (hr.mono (by decide)) rfl T.d_is_row.at_ T.d_is_row.F.kp (bn_is_row T) pass0 (pa_cons (pe_ix (k_ix (K := K) rfl) (pv 1) pe_int (fun _ _ => rfl)) (pa_cons (pe_ix (k_ix (K := K) rfl) (pv 0) pe_int (fun _ _ => rfl)) pa_nil))) (pe_one (pe_go (ok_is_row T) hg (hr.mono (by decide)) rfl T.d_is_row.at_ T.d_is_row.F.kp (bn_is_row T) pass0 (pa_cons (pe_ix (k_ix (K := K) rfl) (pv 1) pe_int (fun _ _ => rfl)) (pa_cons (pe_ix (k_ix (K := K) rfl) (pv 0) pe_int (fun _ _ => rfl)) pa_nil))))))))), ?_⟩
  refine s_seq (s_drop e (ev_call (by walk_at "u_ea") ⟨a, b, rfl, hf, rfl⟩) fun H1 u1 => ?_)
  walk_at "u_n"
  refine s_retE u1.sub (ev_and (ev_call (by walk_at "u_ea") ⟨_, _, rfl, rfl⟩) fun _ => ev_and (ev_call (by walk_at "u_ea") ⟨p, a, rfl, h1, hl1, rfl⟩) fun _ => ev_call (by walk_at "u_ea") ⟨q, b, rfl, h2, hl2, rfl⟩) ?_ (fun v B1 H2 n1 rv => ret v B1 H2 (u1.new.trans n1) rv)
  rfl

def g_need_setting (ds : List Dt) (d : Dt) : Prop := ∃ (a b : Int) (p q : List Int), ds = [eFr a b, eSet p q] ∧ SetOk a b p q ∧ d = .non
theorem ok_need_setting (T : Txt K mg fa fd) : FnG P w K mg base CX0 5 (fa 27) (fd 27) ["frame", "setting"] (spD g_need_setting) := by
  refine fn_D T.d_need_setting.F sc_need_setting (fun ds d h => by obtain ⟨_, _, _, _, rfl, _⟩ := h; rfl) (fun cdv Γ below s B H vs ds d Q E hg hr e ra hd ret => ?_)
  obtain ⟨a, b, p, q, rfl, hf, rfl⟩ := hd
  rcases ra with _ | ⟨r1, _ | ⟨r2, _ | _⟩⟩
  refine ⟨_, (pss_one (ps_if (pt_not (pt_val (pe_go (ok_is_setting T) hg (hr.mono (by decide)) rfl T.d_is_setting.at_ T.d_is_setting.F.kp (bn_is_setting T) pass0 (pa_cons (pv 0) (pa_cons (pv 1) pa_nil))))) (pss_one ps_never) pss_nil)), ?_⟩
  refine s_if (b := !true) e (ec_not (ec_v (ev_call (by walk_at "u_ea") ⟨a, b, p, q, rfl, hf, rfl⟩))) (fun hb => nomatch hb) (fun _ H1 u1 => ?_)
  exact ret _ B H1 u1.new .non

def g_moved_corner (ds : List Dt) (d : Dt) : Prop := ∃ (c : Cor) (i : Int), ds = [eCor c, .int i] ∧ d = eCor (mvC c i)
theorem ok_moved_corner (T : Txt K mg fa fd) : FnG P w K mg base CX0 1 (fa 30) (fd 30) ["corner", "by"] (spD g_moved_corner) := by
  refine fn_D T.d_moved_corner.F sc_moved_corner (fun ds d h => by obtain ⟨_, _, rfl, _⟩ := h; rfl) (fun cdv Γ below s B H vs ds d Q E hg hr e ra hd ret => ?_)
  obtain ⟨c, i, rfl, rfl⟩ := hd
  rcases ra with _ | ⟨r1, _ | ⟨r2, _ | _⟩⟩
  have hu := hr.units
  cases r2
  refine ⟨_, (pss_one (ps_ret (pe_tup (pa_cons (pe_ix (k_ix (K := K) rfl) (pv 0) pe_int (fun _ _ => rfl)) (pa_cons (pe_op op_addA (pe_ix (k_ix (K := K) rfl) (pv 0) pe_int (fun _ _ => rfl)) (pv 1)) pa_nil))))), ?_⟩
  exact s_retE e (ev_tup (ea_cons (ev_op (ev_v rfl r1) ev_i (rv_ixT rfl)) (ea_cons (ev_op (ev_op (ev_v rfl r1) ev_i (rv_ixT rfl)) (ev_v rfl (.int _)) (rv_inl rv_add)) ea_nil)) (by simp)) rfl ret

def g_narrowed (c : Ub) (ds : List Dt) (d : Dt) : Prop := ∃ (b : Bd) (lo hi : Cor) (i : Int), ds = [eBd c b, eCor lo, eCor hi, .int i] ∧ b.lows.length ≤ 1000 ∧ b.highs.length ≤ 1000 ∧ d = eBd c (nar b lo hi i)
theorem ok_narrowed (T : Txt K mg fa fd) : FnG P w K mg base CX0 2 (fa 31) (fd 31) ["bounds", "low", "high", "by"] (spD (g_narrowed (ubOf K mg))) := by
  refine fn_D T.d_narrowed.F sc_narrowed (fun ds d h => by obtain ⟨_, _, _, _, rfl, _⟩ := h; rfl) (fun cdv Γ below s B H vs ds d Q E hg hr e ra hd ret => ?_)
  obtain ⟨b, lo, hi, i, rfl, h1, h2, rfl⟩ := hd
  rcases ra with _ | ⟨r1, _ | ⟨r2, _ | ⟨r3, _ | ⟨r4, _ | _⟩⟩⟩⟩
  have hu := hr.units
  have ub := T.u_UNBOUNDED
  refine ⟨_, (pss_cons (ps_asg (pv 0) (pg_tup rfl (pgs_cons (pg_name (i := 4) sc_narrowed.nd rfl (by first | exact Or.inl rfl | exact Or.inr rfl)) (pgs_cons (pg_name (i := 5) sc_narrowed.nd rfl (by first | exact Or.inl rfl | exact Or.inr rfl)) (pgs_cons (pg_name (i := 6) sc_narrowed.nd rfl (by first | exact Or.inl rfl | exact Or.inr rfl)) pgs_nil))))) (pss_one (ps_ret (pe_tup (pa_cons (pe_tup (k_star (K := K) rfl (pv 4) (pa_cons (pe_go (ok_moved_corner T) hg (hr.mono (by decide)) rfl T.d_moved_corner.at_ T.d_moved_corner.F.kp (bn_moved_corner T) pass0 (pa_cons (pv 1) (pa_cons (pv 3) pa_nil))) pa_nil))) (pa_cons (pe_tup (k_star (K := K) rfl (pv 5) (pa_cons (pe_go (ok_moved_corner T) hg (hr.mono (by decide)) rfl T.d_moved_corner.at_ T.d_moved_corner.F.kp (bn_moved_corner T) pass0 (pa_cons (pv 2) (pa_cons (pv 3) pa_nil))) pa_nil))) (pa_cons (pv 6) pa_nil))))))), ?_⟩
  refine s_seq (s_asgBd ub e (ev_v rfl r1) fun v1 v2 v3 B1 H1 n q1 q2 q3 => ?_)
  walk_at "u_n"
  have r2' := r2.mono n.ext
  have r3' := r3.mono n.ext
  have r4' := r4.mono n.ext
  refine s_retE n.sub (ev_tup (ea_cons (ev_tup (ea_starE ub.s1 (ev_v rfl q1) (ea_cons (ev_call (ea_cons (ev_v rfl r2') (ea_cons (ev_v rfl r4') ea_nil)) ⟨lo, i, rfl, rfl⟩) ea_nil)) ?_) (ea_cons (ev_tup (ea_starE ub.s2 (ev_v rfl q2) (ea_cons (ev_call (ea_cons (ev_v rfl r3') (ea_cons (ev_v rfl r4') ea_nil)) ⟨hi, i, rfl, rfl⟩) ea_nil)) ?_) (ea_cons (ev_v rfl q3) ea_nil))) (by simp)) ?_ (fun v B2 H2 n2 rv => ret v B2 H2 (n.trans n2) rv)
  · simp; omega
  · simp; omega
  · rw [eBd_of (b := nar b lo hi i) (by simp [nar]), eL_cons (l := (nar b lo hi i).lows) (by simp [nar]), eL_cons (l := (nar b lo hi i).highs) (by simp [nar])]
    simp [nar]

def g_boxed (c : Ub) (ds : List Dt) (d : Dt) : Prop := ∃ (ar : Ar) (x : Bx) (mv : Int × Int), ds = [eAr c ar, eBx x, eFr mv.1 mv.2] ∧ ArS 1000 ar ∧ d = eAr c (boxd ar x mv)
theorem ok_boxed (T : Txt K mg fa fd) : FnG P w K mg base CX0 3 (fa 32) (fd 32) ["around", "box", "moved"] (spD (g_boxed (ubOf K mg))) := by
  refine fn_D T.d_boxed.F sc_boxed (fun ds d h => by obtain ⟨_, _, _, rfl, _⟩ := h; rfl) (fun cdv Γ below s B H vs ds d Q E hg hr e ra hd ret => ?_)
  obtain ⟨ar, x, mv, rfl, hs, rfl⟩ := hd
  rcases ra with _ | ⟨r1, _ | ⟨r2, _ | ⟨r3, _ | _⟩⟩⟩
  have hu := hr.units
  refine ⟨_, (pss_cons (ps_asg (pv 1) (pg_tup rfl (pgs_cons (pg_name (i := 3) sc_boxed.nd rfl (by first | exact Or.inl rfl | exact Or.inr rfl)) (pgs_cons (pg_name (i := 4) sc_boxed.nd rfl (by first | exact Or.inl rfl | exact Or.inr rfl)) (pgs_cons (pg_name (i := 5) sc_boxed.nd rfl (by first | exact Or.inl rfl | exact Or.inr rfl)) (pgs_cons (pg_name (i := 6) sc_boxed.nd rfl (by first | exact Or.inl rfl | exact Or.inr rfl)) pgs_nil)))))) (pss_one (ps_ret (pe_tup (pa_cons (pe_go (ok_narrowed T) hg (hr.mono (by decide)) rfl T.d_narrowed.at_ T.d_narrowed.F.kp (bn_narrowed T) pass0 (pa_cons (pe_ix (k_ix (K := K) rfl) (pv 0) pe_int (fun _ _ => rfl)) (pa_cons (pv 3) (pa_cons (pv 4) (pa_cons (pe_ix (k_ix (K := K) rfl) (pv 2) pe_int (fun _ _ => rfl)) pa_nil))))) (pa_cons (pe_go (ok_narrowed T) hg (hr.mono (by decide)) rfl T.d_narrowed.at_ T.d_narrowed.F.kp (bn_narrowed T) pass0 (pa_cons (pe_ix (k_ix (K := K) rfl) (pv 0) pe_int (fun _ _ => rfl)) (pa_cons (pv 5) (pa_cons (pv 6) (pa_cons (pe_ix (k_ix (K := K) rfl) (pv 2) pe_int (fun _ _ => rfl)) pa_nil))))) pa_nil)))))), ?_⟩
  refine s_seq (s_asg4 e (ev_v rfl r2) fun v1 v2 v3 v4 B1 H1 n q1 q2 q3 q4 => ?_)
  walk_at "u_n"
  have r1' := r1.mono n.ext
  have r3' := r3.mono n.ext
  exact s_retE n.sub (ev_tup (ea_cons (ev_call (ea_cons (ev_op (ev_v rfl r1') ev_i (rv_ixT rfl)) (ea_cons (ev_v rfl q1) (ea_cons (ev_v rfl q2) (ea_cons (ev_op (ev_v rfl r3') ev_i (rv_ixT rfl)) ea_nil)))) ⟨ar.1, x.l, x.r, mv.1, rfl, hs.l1, hs.h1, rfl⟩) (ea_cons (ev_call (ea_cons (ev_op (ev_v rfl r1') ev_i (rv_ixT rfl)) (ea_cons (ev_v rfl q3) (ea_cons (ev_v rfl q4) (ea_cons (ev_op (ev_v rfl r3') ev_i (rv_ixT rfl)) ea_nil)))) ⟨ar.2, x.t, x.b, mv.2, rfl, hs.l2, hs.h2, rfl⟩) ea_nil)) (by simp)) rfl (fun v B2 H2 n2 rv => ret v B2 H2 (n.trans n2) rv)

def g_tested (c : Ub) (ds : List Dt) (d : Dt) : Prop := ∃ (ar : Ar) (ax : Bool) (p q : Cor), ds = [eAr c ar, .str (axS ax), eCor p, eCor q] ∧ ArS 1000 ar ∧ d = eAr c (tst ar ax p q)
theorem ok_tested (T : Txt K mg fa fd) : FnG P w K mg base CX0 2 (fa 33) (fd 33) ["around", "axis", "less", "greater"] (spD (g_tested (ubOf K mg))) := by
  refine fn_D T.d_tested.F sc_tested (fun ds d h => by obtain ⟨_, _, _, _, rfl, _⟩ := h; rfl) (fun cdv Γ below s B H vs ds d Q E hg hr e ra hd ret => ?_)
  obtain ⟨ar, ax, p, q, rfl, hs, rfl⟩ := hd
  rcases ra with _ | ⟨r1, _ | ⟨r2, _ | ⟨r3, _ | ⟨r4, _ | _⟩⟩⟩⟩
  have hu := hr.units
  have ub := T.u_UNBOUNDED
  refine ⟨_, (pss_cons (ps_asg (pe_go (ok_on_axis T) hg (hr.mono (by decide)) rfl T.d_on_axis.at_ T.d_on_axis.F.kp (bn_on_axis T) pass0 (pa_cons (pv 0) (pa_cons (pv 1) pa_nil))) (pg_tup rfl (pgs_cons (pg_name (i := 4) sc_tested.nd rfl (by first | exact Or.inl rfl | exact Or.inr rfl)) (pgs_cons (pg_name (i := 5) sc_tested.nd rfl (by first | exact Or.inl rfl | exact Or.inr rfl)) (pgs_cons (pg_name (i := 6) sc_tested.nd rfl (by first | exact Or.inl rfl | exact Or.inr rfl)) pgs_nil))))) (pss_cons (ps_set (i := 7) sc_tested.nd rfl (by first | exact Or.inl rfl | exact Or.inr rfl) (pe_tup (pa_cons (pv 4) (pa_cons (pv 5) (pa_cons (pe_tup (k_star (K := K) rfl (pv 6) (pa_cons (pe_tup (pa_cons (pv 2) (pa_cons (pv 3) pa_nil))) pa_nil))) pa_nil))))) (pss_one (ps_ret (pe_ifExp (pt_cmpR (k_eq (K := K) rfl hu) (pv 1) pe_str (nomark _)) (pe_tup (pa_cons (pv 7) (pa_cons (pe_ix (k_ix (K := K) rfl) (pv 0) pe_int (fun _ _ => rfl)) pa_nil))) (pe_tup (pa_cons (pe_ix (k_ix (K := K) rfl) (pv 0) pe_int (fun _ _ => rfl)) (pa_cons (pv 7) pa_nil)))))))), ?_⟩
  obtain ⟨b, hb⟩ : ∃ b : Bd, b = if ax = true then ar.1 else ar.2 := ⟨_, rfl⟩
  have hbt : b.tests.length ≤ 1000 := by rw [hb]; cases ax; exact hs.t2; exact hs.t1
  refine s_seq (s_asgBd (b := b) ub e ((ev_call (ea_cons (ev_v rfl r1) (ea_cons (ev_v rfl r2) ea_nil)) ⟨_, _, [], ax, rfl, rfl⟩).is (by rw [hb]; cases ax <;> rfl)) fun v1 v2 v3 B1 H1 n q1 q2 q3 => ?_)
  walk_at "u_n"
  have r3' := r3.mono n.ext
  have r4' := r4.mono n.ext
  refine s_seq (s_asg (d := eBd (ubOf K mg) ⟨b.lows, b.highs, b.tests ++ [(p, q)]⟩) n.sub ((ev_tup (ea_cons (ev_v rfl q1) (ea_cons (ev_v rfl q2) (ea_cons (ev_tup (ea_starE ub.s3 (ev_v rfl q3) (ea_cons (ev_tup (ea_cons (ev_v rfl r3') (ea_cons (ev_v rfl r4') ea_nil)) (by simp)) ea_nil)) ?_) ea_nil))) (by simp)).is ?_) fun v B2 H2 n2 rv => ?_)
  · simp; omega
  · rw [eBd_of (by simp), eL_cons (l := b.tests ++ [(p, q)]) (by simp)]
    simp [eTs]
  walk_at "u_n"
  have r1' := r1.mono (n.ext.trans n2.ext)
  have r2' := r2.mono (n.ext.trans n2.ext)
  refine s_retE n2.sub (ev_if (b := ax) ((ec_t (ev_op (ev_v rfl r2') ev_s (rv_inl rv_eqS))).is axS_x) (x := eAr (ubOf K mg) (tst ar ax p q)) (fun ha => ?_) (fun ha => ?_)) rfl (fun v B3 H3 n3 rv => ret v B3 H3 ((n.trans n2).trans n3) rv)
  · subst ha
    rw [if_pos rfl] at hb
    subst hb
    exact ev_tup (ea_cons (ev_v rfl rv) (ea_cons (ev_op (ev_v rfl r1') ev_i (rv_ixT rfl)) ea_nil)) (by simp)
  · subst ha
    rw [if_neg (by simp)] at hb
    subst hb
    exact ev_tup (ea_cons (ev_op (ev_v rfl r1') ev_i (rv_ixT rfl)) (ea_cons (ev_v rfl rv) ea_nil)) (by simp)

def g_parts_inside (c : Ub) (ds : List Dt) (d : Dt) : Prop := ∃ (s : Sm) (mv : Int × Int) (ar : Ar), ds = [eSt s, eFr mv.1 mv.2, eAr c ar] ∧ ArS 1000 ar ∧ d = .lst ((insS s mv ar).map (eIn c))
theorem ok_parts_inside (T : Txt K mg fa fd) : FnG P w K mg base CX0 4 (fa 34) (fd 34) ["statement", "moved", "around"] (spD (g_parts_inside (ubOf K mg))) := by
  refine fn_D T.d_parts_inside.F sc_parts_inside (fun ds d h => by obtain ⟨_, _, _, rfl, _⟩ := h; rfl) (fun cdv Γ below s B H vs ds d Q E hg hr e ra hd ret => ?_)
  obtain ⟨st, mv, ar, rfl, hs, rfl⟩ := hd
  rcases ra with _ | ⟨r1, _ | ⟨r2, _ | ⟨r3, _ | _⟩⟩⟩
  have hu := hr.units
  refine ⟨_, (pss_cons (ps_set (i := 3) sc_parts_inside.nd rfl (by first | exact Or.inl rfl | exact Or.inr rfl) (pe_ix (k_ix (K := K) rfl) (pv 0) pe_int (fun _ _ => rfl))) (pss_cons (ps_if (pt_cmpR (k_eq (K := K) rfl hu) (pv 3) pe_str (nomark _)) (pss_one (ps_ret (pe_lst (pa_cons (pe_tup (pa_cons (pe_ix (k_ix (K := K) rfl) (pv 0) pe_int (fun _ _ => rfl)) (pa_cons (pe_go (ok_boxed T) hg (hr.mono (by decide)) rfl T.d_boxed.at_ T.d_boxed.F.kp (bn_boxed T) pass0 (pa_cons (pv 2) (pa_cons (pe_ix (k_ix (K := K) rfl) (pv 0) pe_int (fun _ _ => rfl)) (pa_cons (pv 1) pa_nil)))) pa_nil))) pa_nil)))) pss_nil) (pss_cons (ps_if (pt_cmpR (k_eq (K := K) rfl hu) (pv 3) pe_str (nomark _)) (pss_one (ps_ret (pe_lst (pa_cons (pe_tup (pa_cons (pe_ix (k_ix (K := K) rfl) (pv 0) pe_int (fun _ _ => rfl)) (pa_cons (pv 2) pa_nil))) pa_nil)))) pss_nil) (pss_cons (ps_if (pt_cmpR (k_eq (K := K) rfl hu) (pv 3) pe_str (nomark _)) (pss_cons (ps_asg (pv 0) (pg_tup rfl (pgs_cons (pg_name (i := 4) sc_parts_inside.nd rfl (by first | exact Or.inl rfl | exact Or.inr rfl)) (pgs_cons (pg_name (i := 5) sc_parts_inside.nd rfl (by first | exact Or.inl rfl | exact Or.inr rfl)) (pgs_cons (pg_name (i := 6) sc_parts_inside.nd rfl (by first | exact Or.inl rfl | exact Or.inr rfl)) (pgs_cons (pg_name (i := 7) sc_parts_inside.nd rfl (by first | exact Or.inl rfl | exact Or.inr rfl)) (pgs_cons (pg_name (i := 8) sc_parts_inside.nd rfl (by first | exact Or.inl rfl | exact Or.inr rfl)) (pgs_cons (pg_name (i := 9) sc_parts_inside.nd rfl (by first | exact Or.inl rfl | exact Or.inr rfl)) pgs_nil)))))))) (pss_one (ps_ret (pe_lst (pa_cons (pe_tup (pa_cons (pv 8) (pa_cons (pe_go (ok_tested T) hg (hr.mono (by decide)) rfl T.d_tested.at_ T.d_tested.F.kp (bn_tested T) pass0 (pa_cons (pv 2) (pa_cons (pv 5) (pa_cons (pv 6) (pa_cons (pv 7) pa_nil))))) pa_nil))) (pa_cons (pe_tup (pa_cons (pv 9) (pa_cons (pe_go (ok_tested T) hg (hr.mono (by decide)) rfl T.d_tested.at_ T.d_tested.F.kp (bn_tested T) pass0 (pa_cons (pv 2) (pa_cons (pv 5) (pa_cons (pv 7) (pa_cons (pe_go (ok_moved_corner T) hg (hr.mono (by decide)) rfl T.d_moved_corner.at_ T.d_moved_corner.F.kp (bn_moved_corner T) pass0 (pa_cons (pv 6) (pa_cons pe_int pa_nil))) pa_nil))))) pa_nil))) pa_nil)))))) pss_nil) (pss_one (ps_ret (pe_lst pa_nil))))))), ?_⟩
  rw [eSt_eq] at r1
  refine s_seq (s_asg (d := .str (wdS st)) e (ev_op (ev_v rfl r1) ev_i (rv_ixT (atI_nat' (m := 0) rfl))) fun v B1 H1 n1 rv => ?_)
  walk_at "u_n"
  cases rv
  have r1 := r1.mono n1.ext
  have r2 := r2.mono n1.ext
  have r3 := r3.mono n1.ext
  cases st with
  | fill bx c =>
    refine s_seq (s_if (b := false) n1.sub ((ec_t (ev_op (ev_v rfl (.str _)) ev_s (rv_inl rv_eqS))).is (by walk_at "wdk")) (fun z => nomatch z) (fun _ H2 u2 => ?_))
    walk_at "u_n"
    refine s_seq (s_if (b := false) u2.sub ((ec_t (ev_op (ev_v rfl (.str _)) ev_s (rv_inl rv_eqS))).is (by walk_at "wdk")) (fun z => nomatch z) (fun _ H3 u3 => ?_))
    walk_at "u_n"
    refine s_seq (s_if (b := false) u3.sub ((ec_t (ev_op (ev_v rfl (.str _)) ev_s (rv_inl rv_eqS))).is (by walk_at "wdk")) (fun z => nomatch z) (fun _ H4 u4 => ?_))
    walk_at "u_n"
    exact s_retE u4.sub (ev_lst ea_nil (by simp)) rfl (fun v B4 H5 n5 rv => ret v B4 H5 ((((n1.trans u2.new).trans u3.new).trans u4.new).trans n5) rv)
  | clip bx ss =>
    refine s_seq (s_if (b := true) n1.sub ((ec_t (ev_op (ev_v rfl (.str _)) ev_s (rv_inl rv_eqS))).is (by walk_at "wdk")) (fun _ H2 u2 => ?_) (fun z => nomatch z))
    exact s_retE u2.sub (ev_lst (ea_cons (ev_tup (ea_cons (ev_op (ev_v rfl r1) ev_i (rv_ixT rfl)) (ea_cons (ev_call (ea_cons (ev_v rfl r3) (ea_cons (ev_op (ev_v rfl r1) ev_i (rv_ixT rfl)) (ea_cons (ev_v rfl r2) ea_nil))) ⟨ar, bx, mv, rfl, hs, rfl⟩) ea_nil)) (by simp)) ea_nil) (by simp)) rfl (fun v B4 H5 n5 rv => ret v B4 H5 ((n1.trans u2.new).trans n5) rv)
  | move dx dy ss =>
    refine s_seq (s_if (b := false) n1.sub ((ec_t (ev_op (ev_v rfl (.str _)) ev_s (rv_inl rv_eqS))).is (by walk_at "wdk")) (fun z => nomatch z) (fun _ H2 u2 => ?_))
    walk_at "u_n"
    refine s_seq (s_if (b := true) u2.sub ((ec_t (ev_op (ev_v rfl (.str _)) ev_s (rv_inl rv_eqS))).is (by walk_at "wdk")) (fun _ H3 u3 => ?_) (fun z => nomatch z))
    exact s_retE u3.sub (ev_lst (ea_cons (ev_tup (ea_cons (ev_op (ev_v rfl r1) ev_i (rv_ixT rfl)) (ea_cons (ev_v rfl r3) ea_nil)) (by simp)) ea_nil) (by simp)) rfl (fun v B4 H5 n5 rv => ret v B4 H5 (((n1.trans u2.new).trans u3.new).trans n5) rv)
  | iff ax p q a b =>
    refine s_seq (s_if (b := false) n1.sub ((ec_t (ev_op (ev_v rfl (.str _)) ev_s (rv_inl rv_eqS))).is (by walk_at "wdk")) (fun z => nomatch z) (fun _ H2 u2 => ?_))
    walk_at "u_n"
    refine s_seq (s_if (b := false) u2.sub ((ec_t (ev_op (ev_v rfl (.str _)) ev_s (rv_inl rv_eqS))).is (by walk_at "wdk")) (fun z => nomatch z) (fun _ H3 u3 => ?_))
    walk_at "u_n"
    refine s_seq (s_if (b := true) u3.sub ((ec_t (ev_op (ev_v rfl (.str _)) ev_s (rv_inl rv_eqS))).is (by walk_at "wdk")) (fun _ H4 u4 => ?_) (fun z => nomatch z))
    have N4 := ((n1.trans u2.new).trans u3.new).trans u4.new
    refine s_seq ((ev_v rfl r1) H4 u4.sub _ fun v B5 H5 n5 rv => g_tupR n5.sub rv rfl fun vs ra => g_consR ra fun v1 _ q1 ra => g_consR ra fun v2 _ q2 ra => g_consR ra fun v3 _ q3 ra => g_consR ra fun v4 _ q4 ra => g_consR ra fun v5 _ q5 ra => g_consR ra fun v6 _ q6 ra => g_nilR ra ?_)
    walk_at "u_n"
    have r3 := r3.mono n5.ext
    exact s_retE n5.sub (ev_lst (ea_cons (ev_tup (ea_cons (ev_v rfl q5) (ea_cons (ev_call (ea_cons (ev_v rfl r3) (ea_cons (ev_v rfl q2) (ea_cons (ev_v rfl q3) (ea_cons (ev_v rfl q4) ea_nil)))) ⟨ar, ax, p, q, rfl, hs, rfl⟩) ea_nil)) (by simp)) (ea_cons (ev_tup (ea_cons (ev_v rfl q6) (ea_cons (ev_call (ea_cons (ev_v rfl r3) (ea_cons (ev_v rfl q2) (ea_cons (ev_v rfl q4) (ea_cons (ev_call (ea_cons (ev_v rfl q3) (ea_cons ev_i ea_nil)) ⟨p, 1, rfl, rfl⟩) ea_nil)))) ⟨ar, ax, q, mvC p 1, rfl, hs, rfl⟩) ea_nil)) (by simp)) ea_nil)) (by simp)) rfl (fun v B6 H7 n6 rv => ret v B6 H7 ((N4.trans n5).trans n6) rv)

def g_strokes_in (c : Ub) (n : Nat) (ds : List Dt) (d : Dt) : Prop := ∃ (a b : Int) (ss : List Sm) (mv : Int × Int) (ar : Ar), ds = [.tup (ePg ss), eFr mv.1 mv.2, eAr c ar] ∧ okP a b n ss ∧ szP ss ≤ 1000 ∧ ArS (900 - n) ar ∧ n ≤ 100 ∧ d = .lst ((skP ss mv ar).map (eSk c))
theorem skP_take {ss : List Sm} {mv : Int × Int} {ar : Ar} {i : Nat} {s : Sm} (h : ss[i]? = some s) : skP (ss.take (i + 1)) mv ar = skP (ss.take i) mv ar ++ skS s mv ar := by
  rw [List.take_add_one, h, skP_append]
  congr 1
  show skP [s] mv ar = _
  rw [skP, skP, List.append_nil]
theorem szP_take : ∀ (ss : List Sm) (i : Nat), szP (ss.take i) ≤ szP ss
  | _, 0 => by rw [List.take_zero, szP]; exact Nat.zero_le _
  | [], i + 1 => by rw [List.take_nil]; exact Nat.le_refl _
  | s :: ss, i + 1 => by rw [List.take_succ_cons, szP, szP]; have := szP_take ss i; omega
theorem st_strokes_in (T : Txt K mg fa fd) {n k : Nat} (hk : 4 ≤ k) (rec_strokes_in : FnG P w K mg base CX0 k (fa 35) (fd 35) ["program", "moved", "around"] (spD (g_strokes_in (ubOf K mg) n))) : FnG P w K mg base CX0 (k + 1) (fa 35) (fd 35) ["program", "moved", "around"] (spD (g_strokes_in (ubOf K mg) (n + 1))) := by
  refine fn_D T.d_strokes_in.F sc_strokes_in (fun ds d h => by obtain ⟨_, _, _, _, _, rfl, _⟩ := h; rfl) (fun cdv Γ below s B H vs ds d Q E hg hr e ra hd ret => ?_)
  obtain ⟨a, b, ss, mv, ar, rfl, hok, hsz, hs, hn, rfl⟩ := hd
  rcases ra with _ | ⟨r1, _ | ⟨r2, _ | ⟨r3, _ | _⟩⟩⟩
  have hu := hr.units
  refine ⟨_, (pss_cons (ps_set (i := 3) sc_strokes_in.nd rfl (by first | exact Or.inl rfl | exact Or.inr rfl) (pe_lst pa_nil)) (pss_cons (ps_for PassesOwn.never rfl (k_seq (K := K) rfl (pv 0)) (pg_name (i := 4) sc_strokes_in.nd rfl (by first | exact Or.inl rfl | exact Or.inr rfl)) (pss_cons (ps_if (pt_cmpR (k_eq (K := K) rfl hu) (pe_ix (k_ix (K := K) rfl) (pv 4) pe_int (fun _ _ => rfl)) pe_str (nomark _)) (pss_cons (ps_asg (pe_go (ok_boxed T) hg (hr.mono (by omega)) rfl T.d_boxed.at_ T.d_boxed.F.kp (bn_boxed T) pass0 (pa_cons (pv 2) (pa_cons (pe_ix (k_ix (K := K) rfl) (pv 4) pe_int (fun _ _ => rfl)) (pa_cons (pv 1) pa_nil)))) (pg_tup rfl (pgs_cons (pg_name (i := 5) sc_strokes_in.nd rfl (by first | exact Or.inl rfl | exact Or.inr rfl)) (pgs_cons (pg_name (i := 6) sc_strokes_in.nd rfl (by first | exact Or.inl rfl | exact Or.inr rfl)) pgs_nil)))) (pss_one (ps_expr (pe_bm PySem.F.plainAttrs_list PySem.F.slot_list_append PySem.F.type_list_append mt_append (pv 3) (pa_cons (pe_tup (pa_cons (pv 5) (pa_cons (pv 6) (pa_cons (pe_ix (k_ix (K := K) rfl) (pv 4) pe_int (fun _ _ => rfl)) pa_nil)))) pa_nil))))) pss_nil) (pss_one (ps_for PassesOwn.never rfl (k_seq (K := K) rfl (pe_go (ok_parts_inside T) hg (hr.mono (by omega)) rfl T.d_parts_inside.at_ T.d_parts_inside.F.kp (bn_parts_inside T) pass0 (pa_cons (pv 4) (pa_cons (pv 1) (pa_cons (pv 2) pa_nil))))) (pg_tup rfl (pgs_cons (pg_name (i := 7) sc_strokes_in.nd rfl (by first | exact Or.inl rfl | exact Or.inr rfl)) (pgs_cons (pg_name (i := 8) sc_strokes_in.nd rfl (by first | exact Or.inl rfl | exact Or.inr rfl)) pgs_nil))) (pss_one (ps_expr (pe_bm PySem.F.plainAttrs_list PySem.F.slot_list_extend PySem.F.type_list_extend mt_extend (pv 3) (pa_cons (pe_go rec_strokes_in hg (hr.mono (by omega)) rfl T.d_strokes_in.at_ T.d_strokes_in.F.kp (bn_strokes_in T) pass0 (pa_cons (pv 7) (pa_cons (pe_go (ok_moved_further T) hg (hr.mono (by omega)) rfl T.d_moved_further.at_ T.d_moved_further.F.kp (bn_moved_further T) pass0 (pa_cons (pv 1) (pa_cons (pv 4) pa_nil))) (pa_cons (pv 8) pa_nil)))) pa_nil)))))))) (pss_one (ps_ret (pv 3))))), ?_⟩
  refine s_seq (s_new e fun p H1 hp bp eH u1 => ?_)
  subst eH
  walk_at "u_n"
  rename_i v1 v2 v3
  rw [ePg_map] at r1
  have o1 : Own H B (upd H p (.lst [])) p [] := ⟨hp, bp, upd_same⟩
  refine s_seq (q_each (l := ss) (enc := eSt) u1.sub (ev_v rfl r1) (Items.tup _) (fun i σ' B' H' => ∃ acc w4 w5 w6 w7 w8, σ' = [some v1, some v2, some v3, some (.ref p), w4, w5, w6, w7, w8] ∧ New B H B' H' ∧ Own H B' H' p acc ∧ RA B' acc ((skP (ss.take i) mv ar).map (eSk (ubOf K mg)))) ?_ ?_ ?_)
  · intro B1 H1 n1
    refine ⟨[], _, _, _, _, _, rfl, u1.new.trans n1, o1.step n1, ?_⟩
    rw [List.take_zero, skP]
    exact .nil
  · rintro B1 i st v σ' B' H' hi rv e1 e2 ⟨acc, w4, w5, w6, w7, w8, rfl, nB, oB, rB⟩
    have hm := List.mem_of_getElem? hi
    have hst := hok st hm
    have hss := szP_le hm
    have rv := rv.mono e1
    have hlen : acc.length ≤ 1000 := by
      rw [rB.len, List.length_map]
      have := skP_len (ss.take i) mv ar
      have := szP_take ss i
      omega
    have hacc : (skP (ss.take i) mv ar ++ skS st mv ar).length ≤ 1000 := by
      rw [← skP_take hi]
      have := skP_len (ss.take (i + 1)) mv ar
      have := szP_take ss (i + 1)
      omega
    have r2' := r2.mono nB.ext
    have r3' := r3.mono nB.ext
    have rv' := rv
    rw [eSt_eq] at rv'
    show tSeq _ _ _ _ _
    by_cases hf : isFill st = true
    · obtain ⟨bx, c, rfl⟩ : ∃ bx c, st = .fill bx c := by cases st with | fill bx c => exact ⟨_, _, rfl⟩ | _ => cases hf
      refine s_seq (s_if (b := true) nB.sub ((ec_t (ev_op (ev_op (ev_v rfl rv') ev_i (rv_ixT (atI_nat' (m := 0) rfl))) ev_s (rv_inl rv_eqS))).is (by walk_at "wdk")) (fun _ H2 u2 => ?_) (fun z => nomatch z))
      have n2 := nB.trans u2.new
      have o2 := oB.step u2.new
      refine s_seq (s_asg2 (x := eBd (ubOf K mg) (boxd ar bx mv).1) (y := eBd (ubOf K mg) (boxd ar bx mv).2) u2.sub (ev_call (ea_cons (ev_v rfl r3') (ea_cons (ev_op (ev_v rfl rv') ev_i (rv_ixT rfl)) (ea_cons (ev_v rfl r2') ea_nil))) ⟨ar, bx, mv, rfl, hs.up (by omega), rfl⟩) fun w1 w2 B3 H3 n3 q1 q2 => ?_)
      walk_at "u_n"
      have rv3 := rv'.mono n3.ext
      refine s_app n3.sub (o2.step n3) rfl (d := eSk (ubOf K mg) ⟨(boxd ar bx mv).1, (boxd ar bx mv).2, c⟩) (ev_tup (ea_cons (ev_v rfl q1) (ea_cons (ev_v rfl q2) (ea_cons (ev_op (ev_v rfl rv3) ev_i (rv_ixT rfl)) ea_nil))) (by simp)) (by omega) fun w B4 H4 n4 o4 r4 => ?_
      have N4 := ((n2.trans n3).trans n4).put (u := .lst (acc ++ [w])) o4
      have R4 : RA B4 (acc ++ [w]) ((skP (ss.take (i + 1)) mv ar).map (eSk (ubOf K mg))) := by
        rw [skP_take hi, List.map_append]
        refine ((rB.mono n3.ext).mono n4.ext).append ?_
        rw [skS]
        exact RA.one r4
      walk_at "u_n"
      refine s_forN (α := List Sm × Ar) (l := []) (enc := eIn (ubOf K mg)) N4.sub (goesN_seq (ev_call (d := .lst []) (ea_cons (ev_v rfl ((rv.mono n3.ext).mono n4.ext)) (ea_cons (ev_v rfl ((r2'.mono n3.ext).mono n4.ext)) (ea_cons (ev_v rfl ((r3'.mono n3.ext).mono n4.ext)) ea_nil))) ⟨.fill bx c, mv, ar, rfl, hs.up (by omega), rfl⟩) (Items.lst _)) (fun _ σ' B' H' => ∃ w4 w5 w6 w7 w8, σ' = [some v1, some v2, some v3, some (.ref p), w4, w5, w6, w7, w8] ∧ New B4 (upd H4 p (.lst (acc ++ [w]))) B' H') ?_ ?_ ?_
      · intro B5 H5 n5
        exact ⟨_, _, _, _, _, rfl, n5⟩
      · intro _ i _ _ _ _ _ _ _ _ _ hi
        simp at hi
      · rintro σ' B5 H5 e5 ⟨w4, w5, w6, w7, w8, rfl, n5⟩
        exact ⟨B5, (e1.trans ((n3.ext.trans n4.ext).trans n5.ext)), e5, acc ++ [w], _, _, _, _, _, rfl, N4.trans n5, (o4.put (ys := acc ++ [w])).step n5, R4.mono n5.ext⟩
    · have hf : isFill st = false := by simpa using hf
      refine s_seq (s_if (b := false) nB.sub ((ec_t (ev_op (ev_op (ev_v rfl rv') ev_i (rv_ixT (atI_nat' (m := 0) rfl))) ev_s (rv_inl rv_eqS))).is ?_) (fun z => nomatch z) (fun _ H2 u2 => ?_))
      · cases st with
        | fill _ _ => cases hf
        | _ => walk_at "wdk"
      walk_at "u_n"
      have n2 := nB.trans u2.new
      have o2 := oB.step u2.new
      have hsk := skS_ins st mv ar hf
      have hfit : ∀ j, (((insS st mv ar).take j).flatMap fun x => skP x.1 (mvS st mv) x.2).length ≤ (skS st mv ar).length := fun j => by
        rw [hsk]
        conv => rhs; rw [← List.take_append_drop j (insS st mv ar), List.flatMap_append, List.length_append]
        omega
      refine s_forN (l := insS st mv ar) (enc := eIn (ubOf K mg)) u2.sub (goesN_seq (ev_call (ea_cons (ev_v rfl rv) (ea_cons (ev_v rfl r2') (ea_cons (ev_v rfl r3') ea_nil))) ⟨st, mv, ar, rfl, hs.up (by omega), rfl⟩) (Items.lst _)) (fun j σ' B5 H5 => ∃ acc5 w5 w6 w7 w8, σ' = [some v1, some v2, some v3, some (.ref p), some v, w5, w6, w7, w8] ∧ Ex B' B5 ∧ New B H B5 H5 ∧ Own H B5 H5 p acc5 ∧ RA B5 acc5 ((skP (ss.take i) mv ar ++ ((insS st mv ar).take j).flatMap fun x => skP x.1 (mvS st mv) x.2).map (eSk (ubOf K mg)))) ?_ ?_ ?_
      · intro B5 H5 n5
        refine ⟨acc, _, _, _, _, rfl, n5.ext, n2.trans n5, o2.step n5, ?_⟩
        rw [List.take_zero, List.flatMap_nil, List.append_nil]
        exact rB.mono n5.ext
      · rintro B5' j x w σ' B5 H5 B6 H6 n6 e56 hj rw' ⟨acc5, w5, w6, w7, w8, rfl, eB5, n5, o5, r5⟩
        have hxm := List.mem_of_getElem? hj
        have hxo : okP a b n x.1 ∧ szP x.1 ≤ 1000 ∧ ArS (900 - n) x.2 := by
          cases st with
          | fill _ _ => cases hf
          | clip bx ss' =>
            rw [szS] at hss
            simp only [insS, List.mem_singleton] at hxm
            subst hxm
            exact ⟨hst.2, by dsimp only; omega, (hs.box bx mv).up (by omega)⟩
          | move dx dy ss' =>
            rw [szS] at hss
            simp only [insS, List.mem_singleton] at hxm
            subst hxm
            exact ⟨hst.2.2.2.2, by dsimp only; omega, hs.up (by omega)⟩
          | iff ax' p' q' a' b' =>
            rw [szS] at hss
            simp only [insS, List.mem_cons, List.not_mem_nil, or_false] at hxm
            rcases hxm with rfl | rfl
            · exact ⟨hst.2.2.1, by dsimp only; omega, (hs.tst ax' p' q').up (by omega)⟩
            · exact ⟨hst.2.2.2, by dsimp only; omega, (hs.tst ax' q' (mvC p' 1)).up (by omega)⟩
        have N6 := n5.trans n6
        have o6 := o5.step n6
        refine g_tupR n6.sub rw' rfl fun us ra => g_consR ra fun x1 _ q1 ra => g_consR ra fun x2 _ q2 ra => g_nilR ra ?_
        have hstep : ((insS st mv ar).take (j + 1)).flatMap (fun x => skP x.1 (mvS st mv) x.2) = ((insS st mv ar).take j).flatMap (fun x => skP x.1 (mvS st mv) x.2) ++ skP x.1 (mvS st mv) x.2 := by
          rw [List.take_add_one, hj, List.flatMap_append]
          simp
        have hl5 : acc5.length + ((skP x.1 (mvS st mv) x.2).map (eSk (ubOf K mg))).length ≤ 100000 := by
          have := hfit (j + 1)
          rw [hstep, List.length_append] at this
          rw [List.length_append] at hacc
          rw [r5.len, List.length_map, List.length_append, List.length_map]
          omega
        refine s_ext n6.sub o6 rfl (ds := (skP x.1 (mvS st mv) x.2).map (eSk (ubOf K mg))) (ev_call (ea_cons (ev_v rfl q1) (ea_cons (ev_call (ea_cons (ev_v rfl ((r2'.mono eB5).mono n6.ext)) (ea_cons (ev_v rfl ((rv.mono eB5).mono n6.ext)) ea_nil)) ⟨mv, st, rfl, rfl⟩) (ea_cons (ev_v rfl q2) ea_nil))) ⟨a, b, x.1, mvS st mv, x.2, rfl, hxo.1, hxo.2.1, hxo.2.2, by omega, rfl⟩) hl5 fun ws B7 H7 n7 o7 r7 => ?_
        have N7 := (N6.trans n7).put (u := .lst (acc5 ++ ws)) o7
        refine ⟨B7, e56.trans (n6.ext.trans n7.ext), N7.sub, acc5 ++ ws, _, _, _, _, rfl, eB5.trans (n6.ext.trans n7.ext), N7, o7.put, ?_⟩
        rw [hstep, ← List.append_assoc, List.map_append]
        exact ((r5.mono n6.ext).mono n7.ext).append r7
      · rintro σ' B5 H5 e5 ⟨acc5, w5, w6, w7, w8, rfl, eB5, n5, o5, r5⟩
        refine ⟨B5, e1.trans eB5, e5, acc5, _, _, _, _, _, rfl, n5, o5, ?_⟩
        rw [skP_take hi, hsk]
        rw [List.take_length] at r5
        exact r5
  · rintro σ' B' H' e' ⟨acc, w4, w5, w6, w7, w8, rfl, nB, oB, rB⟩
    walk_at "u_n"
    rw [List.take_length] at rB
    exact s_ret (d := .lst ((skP ss mv ar).map (eSk (ubOf K mg)))) (nB.give oB).sub (ev_v rfl (oB.data rB)) fun v B4 H4 n4 rv => ret v B4 H4 ((nB.give oB).trans n4) rv
theorem ok_strokes_in_n (T : Txt K mg fa fd) : ∀ n : Nat, FnG P w K mg base CX0 (5 + 2 * n) (fa 35) (fd 35) ["program", "moved", "around"] (spD (g_strokes_in (ubOf K mg) n))
  | 0 => fn_vac fun ds d h => by obtain ⟨_, _, _, _, _, _, h, _⟩ := h; exact h
  | n + 1 => (st_strokes_in T (k := 5 + 2 * n) (by omega) (ok_strokes_in_n T n)).up (by omega)
theorem ok_strokes_in (T : Txt K mg fa fd) : FnG P w K mg base CX0 22 (fa 35) (fd 35) ["program", "moved", "around"] (spD (g_strokes_in (ubOf K mg) 8)) := (ok_strokes_in_n T 8).up (by decide)

def g_strokes_of (c : Ub) (ds : List Dt) (d : Dt) : Prop := ∃ (a b : Int) (ss : List Sm), ds = [.tup (ePg ss)] ∧ okP a b 8 ss ∧ szP ss ≤ 1000 ∧ d = .lst ((skP ss (0, 0) (unb, unb)).map (eSk c))
theorem ok_strokes_of (T : Txt K mg fa fd) : FnG P w K mg base CX0 23 (fa 36) (fd 36) ["program"] (spD (g_strokes_of (ubOf K mg))) := by
  refine fn_D T.d_strokes_of.F sc_strokes_of (fun ds d h => by obtain ⟨_, _, _, rfl, _⟩ := h; rfl) (fun cdv Γ below s B H vs ds d Q E hg hr e ra hd ret => ?_)
  obtain ⟨a, b, ss, rfl, hok, hsz, rfl⟩ := hd
  rcases ra with _ | ⟨r1, _ | _⟩
  refine ⟨_, (pss_one (ps_ret (pe_go (ok_strokes_in T) hg (hr.mono (by decide)) rfl T.d_strokes_in.at_ T.d_strokes_in.F.kp (bn_strokes_in T) pass0 (pa_cons (pv 0) (pa_cons (pe_tup (pa_cons pe_int (pa_cons pe_int pa_nil))) (pa_cons (pe_tup (pa_cons (pe_glob (v := .ref (ubOf K mg).u) rfl T.u_UNBOUNDED.g rfl) (pa_cons (pe_glob (v := .ref (ubOf K mg).u) rfl T.u_UNBOUNDED.g rfl) pa_nil))) pa_nil)))))), ?_⟩
  have eu : ∀ σ : L2.St, EvR (tC (.ref (ubOf K mg).u)) σ B (eBd (ubOf K mg) unb) := fun σ H1 e Q q => q _ B H1 (New.refl e) (.con _)
  exact s_retE e (ev_call (ea_cons (ev_v rfl r1) (ea_cons (ev_tup (ea_cons ev_i (ea_cons ev_i ea_nil)) (by simp)) (ea_cons (ev_tup (ea_cons (eu _) (ea_cons (eu _) ea_nil)) (by simp)) ea_nil))) ⟨a, b, ss, (0, 0), (unb, unb), rfl, hok, hsz, ⟨by simp [unb], by simp [unb], by simp [unb], by simp [unb], by simp [unb], by simp [unb]⟩, by omega, rfl⟩) rfl ret

def g_colours_of (c : Ub) (ds : List Dt) (d : Dt) : Prop := ∃ sks : List Sk, ds = [.lst (sks.map (eSk c))] ∧ sks.length ≤ 1000 ∧ d = eI (sks.map Sk.col)
theorem ok_colours_of (T : Txt K mg fa fd) : FnG P w K mg base CX0 1 (fa 37) (fd 37) ["strokes"] (spD (g_colours_of (ubOf K mg))) := by
  refine fn_D T.d_colours_of.F sc_colours_of (fun ds d h => by obtain ⟨_, rfl, _⟩ := h; rfl) (fun cdv Γ below s B H vs ds d Q E hg hr e ra hd ret => ?_)
  obtain ⟨sks, rfl, hl, rfl⟩ := hd
  rcases ra with _ | ⟨r1, _ | _⟩
  refine ⟨_, (pss_one (ps_ret (pe_lc (own := [("across", 1), ("down", 2), ("colour", 3)]) (g := (gTup K 3 (gCons (gName 1) (gCons (gName 2) (gCons (gName 3) gNil))))) (tt := tYes) rfl sc_colours_of.nd (k_seq (K := K) rfl (pv 0)) (blkOk_by (N := ["strokes", "across", "down", "colour"]) (sc := defScope s_colours_of) (by decide +kernel)) (fun _ _ _ _ _ => (pg_tup rfl (pgs_cons (pg_name (i := 1) sc_colours_of.nd rfl (by first | exact Or.inl rfl | exact Or.inr rfl)) (pgs_cons (pg_name (i := 2) sc_colours_of.nd rfl (by first | exact Or.inl rfl | exact Or.inr rfl)) (pgs_cons (pg_name (i := 3) sc_colours_of.nd rfl (by first | exact Or.inl rfl | exact Or.inr rfl)) pgs_nil))))) (fun _ _ _ _ _ => pts_nil) (fun _ _ _ _ _ => (pv 3))))), ?_⟩
  refine s_retE e (EvL.toR (el_lcN1 (l := sks) (f := fun s => .int s.col) (goesN_seq (ev_v rfl r1) (Items.lst _)) (by omega) fun q v B1 H1 k' hm e1 e2 rv go => ?_)) (by show Dt.lst _ = Dt.lst _; rw [List.map_map]; rfl) ret
  refine g_tupR e2 rv rfl fun us ra => g_consR ra fun x1 _ q1 ra => g_consR ra fun x2 _ q2 ra => g_consR ra fun x3 _ q3 ra => g_nilR ra ?_
  exact go _ rfl (ev_v rfl q3)

def eVs (vs : List Int) : Dt := eI vs
def g_holds (ds : List Dt) (d : Dt) : Prop := ∃ (t : Cor × Cor) (vs : List Int), ds = [eTs t, eI vs] ∧ CIn vs t.1 ∧ CIn vs t.2 ∧ d = .bl (hold vs t)
theorem ev_cv {σ : L2.St} {B : Hp} {ta tb tc : TE} {vs : List Int} {c : Cor} (h : CIn vs c) (h1 : EvR ta σ B (eI vs)) (h2 : EvR tb σ B (.int c.1)) (h3 : EvR tc σ B (.int c.2)) : EvR (tOp (rI0 fun i j => .int (i + j)) (tOp (rIx K) ta tb) tc) σ B (.int (cv vs c)) :=
  ev_op (ev_op h1 h2 (rv_ixL (atI_ints h.1 h.2))) h3 rv_add
theorem ok_holds (T : Txt K mg fa fd) : FnG P w K mg base CX0 1 (fa 38) (fd 38) ["test", "values"] (spD g_holds) := by
  refine fn_D T.d_holds.F sc_holds (fun ds d h => by obtain ⟨_, _, rfl, _⟩ := h; rfl) (fun cdv Γ below s B H vs ds d Q E hg hr e ra hd ret => ?_)
  obtain ⟨t, ns, rfl, h1, h2, rfl⟩ := hd
  rcases ra with _ | ⟨r1, _ | ⟨r2, _ | _⟩⟩
  have hu := hr.units
  refine ⟨_, (pss_cons (ps_asg (pv 0) (pg_tup rfl (pgs_cons (pg_tup rfl (pgs_cons (pg_name (i := 2) sc_holds.nd rfl (by first | exact Or.inl rfl | exact Or.inr rfl)) (pgs_cons (pg_name (i := 3) sc_holds.nd rfl (by first | exact Or.inl rfl | exact Or.inr rfl)) pgs_nil))) (pgs_cons (pg_tup rfl (pgs_cons (pg_name (i := 4) sc_holds.nd rfl (by first | exact Or.inl rfl | exact Or.inr rfl)) (pgs_cons (pg_name (i := 5) sc_holds.nd rfl (by first | exact Or.inl rfl | exact Or.inr rfl)) pgs_nil))) pgs_nil)))) (pss_one (ps_ret (pe_cmpR op_lt (pe_op op_addA (pe_ix (k_ix (K := K) rfl) (pv 1) (pv 2) (fun _ _ => rfl)) (pv 3)) (pe_op op_addA (pe_ix (k_ix (K := K) rfl) (pv 1) (pv 4) (fun _ _ => rfl)) (pv 5)) (nomark _))))), ?_⟩
  refine s_seq ((ev_v rfl r1) H e _ fun v B5 H5 n5 rv => ?_)
  refine g_tupR n5.sub rv rfl fun us ra => g_consR ra fun v1 us2 q1 ra => ?_
  refine g_tupR n5.sub q1 rfl fun vs1 rb => g_consN rb fun w1 vs2 p1 rb => g_consN rb fun w2 vs3 p2 rb => g_nilR rb ?_
  refine g_consR ra fun v2 us3 q2 ra => ?_
  refine g_tupR n5.sub q2 rfl fun vs1 rb => g_consN rb fun w3 vs2 p3 rb => g_consN rb fun w4 vs3 p4 rb => g_nilR rb ?_
  refine g_nilR ra ?_
  walk_at "u_n"
  have r2 := r2.mono n5.ext
  exact s_retE n5.sub (ev_op (ev_op (ev_op (ev_v rfl r2) (ev_v rfl p1) (rv_ixL (atI_ints h1.1 h1.2))) (ev_v rfl p2) (rv_inl rv_add)) (ev_op (ev_op (ev_v rfl r2) (ev_v rfl p3) (rv_ixL (atI_ints h2.1 h2.2))) (ev_v rfl p4) (rv_inl rv_add)) rv_lt) rfl (fun v B6 H7 n6 rv => ret v B6 H7 (n5.trans n6) rv)

def g_span_of (c : Ub) (ds : List Dt) (d : Dt) : Prop := ∃ (b : Bd) (vs : List Int), ds = [eBd c b, eI vs] ∧ BdIn vs b ∧ d = eFr (spanB vs b).1 (spanB vs b).2
theorem ok_span_of (T : Txt K mg fa fd) : FnG P w K mg base CX0 2 (fa 39) (fd 39) ["bounds", "values"] (spD (g_span_of (ubOf K mg))) := by
  refine fn_D T.d_span_of.F sc_span_of (fun ds d h => by obtain ⟨_, _, rfl, _⟩ := h; rfl) (fun cdv Γ below s B H vs ds d Q E hg hr e ra hd ret => ?_)
  obtain ⟨b, ns, rfl, ⟨h1, h2, h3, h4, h5, l1, l2, l3⟩, rfl⟩ := hd
  rcases ra with _ | ⟨r1, _ | ⟨r2, _ | _⟩⟩
  have hu := hr.units
  have ub := T.u_UNBOUNDED
  refine ⟨_, (pss_cons (ps_asg (pv 0) (pg_tup rfl (pgs_cons (pg_name (i := 2) sc_span_of.nd rfl (by first | exact Or.inl rfl | exact Or.inr rfl)) (pgs_cons (pg_name (i := 3) sc_span_of.nd rfl (by first | exact Or.inl rfl | exact Or.inr rfl)) (pgs_cons (pg_name (i := 4) sc_span_of.nd rfl (by first | exact Or.inl rfl | exact Or.inr rfl)) pgs_nil))))) (pss_cons (ps_if (pt_not (pt_val (pe_callB (k_all (K := K) rfl rfl) rfl T.n_all (by decide +kernel) (pa_cons (pe_lc (own := [("test", 5)]) (g := (gName 5)) (tt := tYes) rfl sc_span_of.nd (k_seq (K := K) rfl (pv 4)) (blkOk_by (N := ["bounds", "values", "lows", "highs", "tests", "test", "number", "amount"]) (sc := defScope s_span_of) (by decide +kernel)) (fun _ _ _ _ _ => (pg_name (i := 5) sc_span_of.nd rfl (by first | exact Or.inl rfl | exact Or.inr rfl))) (fun _ _ _ _ _ => pts_nil) (fun _ _ _ _ _ => (pe_go (ok_holds T) hg (hr.mono (by decide)) rfl T.d_holds.at_ T.d_holds.F.kp (bn_holds T) pass0 (pa_cons (pv 5) (pa_cons (pv 1) pa_nil))))) pa_nil)))) (pss_one (ps_ret (pe_tup (pa_cons pe_int (pa_cons pe_int pa_nil))))) pss_nil) (pss_one (ps_ret (pe_tup (pa_cons (pe_callB (k_max (K := K) rfl rfl) rfl T.n_max (by decide +kernel) (pa_cons (pe_lc (own := [("number", 6), ("amount", 7)]) (g := (gTup K 2 (gCons (gName 6) (gCons (gName 7) gNil)))) (tt := tYes) rfl sc_span_of.nd (k_seq (K := K) rfl (pv 2)) (blkOk_by (N := ["bounds", "values", "lows", "highs", "tests", "test", "number", "amount"]) (sc := defScope s_span_of) (by decide +kernel)) (fun _ _ _ _ _ => (pg_tup rfl (pgs_cons (pg_name (i := 6) sc_span_of.nd rfl (by first | exact Or.inl rfl | exact Or.inr rfl)) (pgs_cons (pg_name (i := 7) sc_span_of.nd rfl (by first | exact Or.inl rfl | exact Or.inr rfl)) pgs_nil)))) (fun _ _ _ _ _ => pts_nil) (fun _ _ _ _ _ => (pe_callTy c_int rfl T.n_int (by decide +kernel) (pa_cons (pe_op op_addA (pe_ix (k_ix (K := K) rfl) (pv 1) (pv 6) (fun _ _ => rfl)) (pv 7)) pa_nil)))) pa_nil)) (pa_cons (pe_callB (k_min (K := K) rfl rfl) rfl T.n_min (by decide +kernel) (pa_cons (pe_lc (own := [("number", 6), ("amount", 7)]) (g := (gTup K 2 (gCons (gName 6) (gCons (gName 7) gNil)))) (tt := tYes) rfl sc_span_of.nd (k_seq (K := K) rfl (pv 3)) (blkOk_by (N := ["bounds", "values", "lows", "highs", "tests", "test", "number", "amount"]) (sc := defScope s_span_of) (by decide +kernel)) (fun _ _ _ _ _ => (pg_tup rfl (pgs_cons (pg_name (i := 6) sc_span_of.nd rfl (by first | exact Or.inl rfl | exact Or.inr rfl)) (pgs_cons (pg_name (i := 7) sc_span_of.nd rfl (by first | exact Or.inl rfl | exact Or.inr rfl)) pgs_nil)))) (fun _ _ _ _ _ => pts_nil) (fun _ _ _ _ _ => (pe_callTy c_int rfl T.n_int (by decide +kernel) (pa_cons (pe_op op_addA (pe_ix (k_ix (K := K) rfl) (pv 1) (pv 6) (fun _ _ => rfl)) (pv 7)) pa_nil)))) pa_nil)) pa_nil))))))), ?_⟩
  refine s_seq (s_asgBd ub e (ev_v rfl r1) fun v1 v2 v3 B1 H1 n q1 q2 q3 => ?_)
  walk_at "u_n"
  have r2 := r2.mono n.ext
  refine s_seq (s_if (b := !(b.tests.all (hold ns))) n.sub (ec_not (ec_v (ev_cb (ea_cons (EvL.toR (el_lcN1 (l := b.tests) (enc := eTs) (f := fun t => .bl (hold ns t)) (goesN_eL ub.s3 (ev_v rfl q3)) (by omega) fun q v B2 H2 k' hm e1 e2 rv go => ?_)) ea_nil) rl_all))) (fun hb H2 u2 => ?_) (fun hb H2 u2 => ?_))
  · exact go _ rfl (ev_call (ea_cons (ev_v rfl rv) (ea_cons (ev_v rfl (r2.mono e1)) ea_nil)) ⟨q, ns, rfl, (h3 q hm).1, (h3 q hm).2, rfl⟩)
  · have hb : b.tests.all (hold ns) = false := by simpa using hb
    refine s_retE u2.sub (ev_tup (ea_cons ev_i (ea_cons ev_i ea_nil)) (by simp)) ?_ (fun v B3 H3 n3 rv => ret v B3 H3 ((n.trans u2.new).trans n3) rv)
    unfold spanB
    rw [hb]
    rfl
  · walk_at "u_n"
    have hb : b.tests.all (hold ns) = true := by simpa using hb
    rw [eL_cons h4] at q1
    rw [eL_cons h5] at q2
    refine s_retE u2.sub (ev_tup (ea_cons (ev_cb (ea_cons (EvL.toR (el_lcN1 (l := b.lows) (enc := eCor) (f := fun c => .int (cv ns c)) (goesN_seq (ev_v rfl q1) (Items.tup _)) (by omega) fun q v B2 H3 k' hm e1 e2 rv go => ?_)) ea_nil) (rl_max h4)) (ea_cons (ev_cb (ea_cons (EvL.toR (el_lcN1 (l := b.highs) (enc := eCor) (f := fun c => .int (cv ns c)) (goesN_seq (ev_v rfl q2) (Items.tup _)) (by omega) fun q v B2 H3 k' hm e1 e2 rv go => ?_)) ea_nil) (rl_min h5)) ea_nil)) (by simp)) ?_ (fun v B3 H3 n3 rv => ret v B3 H3 ((n.trans u2.new).trans n3) rv)
    · refine g_tupR e2 rv rfl fun us ra => g_consN ra fun x1 _ p1 ra => g_consN ra fun x2 _ p2 ra => g_nilR ra ?_
      have hq := h1 q hm
      exact go _ rfl (ev_cb (ea_cons (ev_op (ev_op (ev_v rfl (r2.mono e1)) (ev_v rfl p1) (rv_ixL (atI_ints hq.1 hq.2))) (ev_v rfl p2) (rv_inl rv_add)) ea_nil) rl_int)
    · refine g_tupR e2 rv rfl fun us ra => g_consN ra fun x1 _ p1 ra => g_consN ra fun x2 _ p2 ra => g_nilR ra ?_
      have hq := h2 q hm
      exact go _ rfl (ev_cb (ea_cons (ev_op (ev_op (ev_v rfl (r2.mono e1)) (ev_v rfl p1) (rv_ixL (atI_ints hq.1 hq.2))) (ev_v rfl p2) (rv_inl rv_add)) ea_nil) rl_int)
    · unfold spanB
      rw [hb]
      rfl

def skB (ax : Bool) (s : Sk) : Bd := if ax = true then s.across else s.down
def g_spans_on (c : Ub) (ds : List Dt) (d : Dt) : Prop := ∃ (ax : Bool) (sks : List Sk) (vs : List Int), ds = [.str (axS ax), .lst (sks.map (eSk c)), eI vs] ∧ sks.length ≤ 1000 ∧ (∀ s ∈ sks, BdIn vs (skB ax s)) ∧ d = .lst ((spansA ax sks vs).map fun p => eFr p.1 p.2)
theorem ok_spans_on (T : Txt K mg fa fd) : FnG P w K mg base CX0 3 (fa 40) (fd 40) ["axis", "strokes", "values"] (spD (g_spans_on (ubOf K mg))) := by
  refine fn_D T.d_spans_on.F sc_spans_on (fun ds d h => by obtain ⟨_, _, _, rfl, _⟩ := h; rfl) (fun cdv Γ below s B H vs ds d Q E hg hr e ra hd ret => ?_)
  obtain ⟨ax, sks, ns, rfl, hl, hb, rfl⟩ := hd
  rcases ra with _ | ⟨r1, _ | ⟨r2, _ | ⟨r3, _ | _⟩⟩⟩
  refine ⟨_, (pss_one (ps_ret (pe_lc (own := [("stroke", 3)]) (g := (gName 3)) (tt := tYes) rfl sc_spans_on.nd (k_seq (K := K) rfl (pv 1)) (blkOk_by (N := ["axis", "strokes", "values", "stroke"]) (sc := defScope s_spans_on) (by decide +kernel)) (fun _ _ _ _ _ => (pg_name (i := 3) sc_spans_on.nd rfl (by first | exact Or.inl rfl | exact Or.inr rfl))) (fun _ _ _ _ _ => pts_nil) (fun _ _ _ _ _ => (pe_go (ok_span_of T) hg (hr.mono (by decide)) rfl T.d_span_of.at_ T.d_span_of.F.kp (bn_span_of T) pass0 (pa_cons (pe_go (ok_on_axis T) hg (hr.mono (by decide)) rfl T.d_on_axis.at_ T.d_on_axis.F.kp (bn_on_axis T) pass0 (pa_cons (pv 3) (pa_cons (pv 0) pa_nil))) (pa_cons (pv 2) pa_nil))))))), ?_⟩
  refine s_retE e (EvL.toR (el_lcN1 (l := sks) (enc := eSk (ubOf K mg)) (f := fun s => eFr (spanB ns (skB ax s)).1 (spanB ns (skB ax s)).2) (goesN_seq (ev_v rfl r2) (Items.lst _)) (by omega) fun q v B2 H2 k' hm e1 e2 rv go => ?_)) ?_ ret
  · exact go _ rfl (ev_call (ea_cons (ev_call (ea_cons (ev_v rfl rv) (ea_cons (ev_v rfl (r1.mono e1)) ea_nil)) ⟨eBd (ubOf K mg) q.across, eBd (ubOf K mg) q.down, [.int q.col], ax, rfl, rfl⟩ |>.is (e := eBd (ubOf K mg) (skB ax q)) (by cases ax <;> rfl)) (ea_cons (ev_v rfl (r3.mono e1)) ea_nil)) ⟨skB ax q, ns, rfl, hb q hm, rfl⟩)
  · unfold spansA
    rw [List.map_map]
    rfl

def g_stack_at (ds : List Dt) (d : Dt) : Prop := ∃ (sp : List (Int × Int)) (x : Int), ds = [.lst (sp.map fun p => eFr p.1 p.2), .int x] ∧ sp.length ≤ 1000 ∧ d = .int (stackAt sp x)
theorem enum_sp {sp : List (Int × Int)} : enumD (sp.map fun p => eFr p.1 p.2) = sp.zipIdx.map fun p => .tup [.int (p.2 : Nat), eFr p.1.1 p.1.2] := by
  unfold enumD
  rw [List.zipIdx_map, List.map_map]
  rfl
theorem ok_stack_at (T : Txt K mg fa fd) : FnG P w K mg base CX0 1 (fa 41) (fd 41) ["spans", "place"] (spD g_stack_at) := by
  refine fn_D T.d_stack_at.F sc_stack_at (fun ds d h => by obtain ⟨_, _, rfl, _⟩ := h; rfl) (fun cdv Γ below s B H vs ds d Q E hg hr e ra hd ret => ?_)
  obtain ⟨sp, x, rfl, hl, rfl⟩ := hd
  rcases ra with _ | ⟨r1, _ | ⟨r2, _ | _⟩⟩
  cases r2
  refine ⟨_, (pss_one (ps_ret (pe_callB (k_sum (K := K) rfl rfl) rfl T.n_sum (by decide +kernel) (pa_cons (pe_lc (own := [("k", 2), ("low", 3), ("high", 4)]) (g := (gTup K 2 (gCons (gName 2) (gCons (gTup K 2 (gCons (gName 3) (gCons (gName 4) gNil))) gNil)))) rfl sc_stack_at.nd (k_enum (K := K) rfl rfl T.n_enumerate (pa_cons (pv 0) pa_nil)) (blkOk_by (N := ["spans", "place", "k", "low", "high"]) (sc := defScope s_stack_at) (by decide +kernel)) (fun _ _ _ _ _ => (pg_tup rfl (pgs_cons (pg_name (i := 2) sc_stack_at.nd rfl (by first | exact Or.inl rfl | exact Or.inr rfl)) (pgs_cons (pg_tup rfl (pgs_cons (pg_name (i := 3) sc_stack_at.nd rfl (by first | exact Or.inl rfl | exact Or.inr rfl)) (pgs_cons (pg_name (i := 4) sc_stack_at.nd rfl (by first | exact Or.inl rfl | exact Or.inr rfl)) pgs_nil))) pgs_nil)))) (fun _ _ _ _ _ => (pts_one (pt_chain op_le op_lt (pv 3) (pv 1) (pv 4)))) (fun _ _ _ _ _ => (pe_op op_oneShl pe_int (pv 2)))) pa_nil)))), ?_⟩
  have go1 : ∀ {σ : L2.St} {B : Hp} {tl : TA}, EvRA tl σ B [.lst (sp.map fun p => eFr p.1 p.2)] → GoesN (iEnum K tl) σ B (sp.zipIdx.map fun p => .tup [.int (p.2 : Nat), eFr p.1.1 p.1.2]) := fun h => by
    rw [← enum_sp]
    exact goesN_enum h
  refine s_retE e (ev_cb (ea_cons (EvR.is (EvL.toR (el_lcN (l := sp.zipIdx) (c := fun p => inSp x p.1) (f := fun p => .int ((2 : Int) ^ p.2)) (go1 (ea_cons (ev_v rfl r1) ea_nil)) (by rw [List.length_zipIdx]; omega) fun q v B2 H2 k' hm e1 e2 rv go => ?_)) (e := eI ((sp.zipIdx.filter fun p => inSp x p.1).map fun p => (2 : Int) ^ p.2)) ?_) ea_nil) rl_sum) rfl ret
  · have hq : q.2 < sp.length := by
      have := List.snd_lt_of_mem_zipIdx hm
      omega
    refine g_tupR e2 rv rfl fun us ra => g_consN ra fun x1 _ q1 ra => g_consR ra fun v2 _ q2 ra => g_tupR e2 q2 rfl fun us2 rb => g_consN rb fun y1 _ p1 rb => g_consN rb fun y2 _ p2 rb => g_nilR rb (g_nilR ra ?_)
    cases q1; cases p1; cases p2
    exact go _ rfl (ec_t (ev_chain (ev_v rfl (.int _)) (ev_v rfl (.int _)) rv_le (fun _ => ev_v rfl (.int _)) (fun _ => rv_lt))) (fun _ => ev_op ev_i (ev_v rfl (.int _)) (rv_shl1 (by omega)))
  · show Dt.lst _ = Dt.lst _
    rw [List.map_map]
    rfl

def g_cover_of (ds : List Dt) (d : Dt) : Prop := ∃ sp : List (Int × Int), ds = [.lst (sp.map fun p => eFr p.1 p.2)] ∧ sp.length ≤ 30 ∧ d = .lst ((covL sp).map fun p => eFr p.1 p.2)
theorem edges_eq {sp : List (Int × Int)} : edgesOf sp = (sp.filter fun p => decide (p.1 < p.2)).flatMap fun p => ([p.1, p.2].filter fun _ => true).map id := by
  unfold edgesOf
  congr 1
theorem ok_cover_of (T : Txt K mg fa fd) : FnG P w K mg base CX0 2 (fa 42) (fd 42) ["spans"] (spD g_cover_of) := by
  refine fn_D T.d_cover_of.F sc_cover_of (fun ds d h => by obtain ⟨_, rfl, _⟩ := h; rfl) (fun cdv Γ below s B H vs ds d Q E hg hr e ra hd ret => ?_)
  obtain ⟨sp, rfl, hl, rfl⟩ := hd
  rcases ra with _ | ⟨r1, _ | _⟩
  have hlen := edges_len sp
  refine ⟨_, (pss_cons (ps_set (i := 1) sc_cover_of.nd rfl (by first | exact Or.inl rfl | exact Or.inr rfl) (pe_callB (k_sortedSet (w := w) rfl rfl) rfl T.n_sorted (by decide +kernel) (pa_cons (pe_callTy (k_setL (K := K) (w := w) rfl rfl rfl) rfl T.n_set (by decide +kernel) (pa_cons (pe_lc2 (own := [("low", 2), ("high", 3), ("edge", 4)]) (vs1 := [4]) (g := (gTup K 2 (gCons (gName 2) (gCons (gName 3) gNil)))) (g1 := (gName 4)) (tt1 := tYes) rfl sc_cover_of.nd (k_seq (K := K) rfl (pv 0)) (blkOk_by (N := ["spans", "edges", "low", "high", "edge"]) (sc := defScope s_cover_of) (by decide +kernel)) (by decide) (fun _ _ _ _ _ => (pg_tup rfl (pgs_cons (pg_name (i := 2) sc_cover_of.nd rfl (by first | exact Or.inl rfl | exact Or.inr rfl)) (pgs_cons (pg_name (i := 3) sc_cover_of.nd rfl (by first | exact Or.inl rfl | exact Or.inr rfl)) pgs_nil)))) (fun _ _ _ _ _ => (pts_one (pt_cmpR op_lt (pv 2) (pv 3) (nomark _)))) (fun _ _ _ _ _ => (k_seq (K := K) rfl (pe_tup (pa_cons (pv 2) (pa_cons (pv 3) pa_nil))))) (fun _ _ _ _ _ => (pg_name (i := 4) sc_cover_of.nd rfl (by first | exact Or.inl rfl | exact Or.inr rfl))) (fun _ _ _ _ _ => pts_nil) (fun _ _ _ _ _ => (pe_callTy c_int rfl T.n_int (by decide +kernel) (pa_cons (pv 4) pa_nil)))) pa_nil)) pa_nil))) (pss_one (ps_ret (pe_lc (own := [("edge", 4)]) (g := (gName 4)) (tt := tYes) rfl sc_cover_of.nd (k_seq (K := K) rfl (pv 1)) (blkOk_by (N := ["spans", "edges", "low", "high", "edge"]) (sc := defScope s_cover_of) (by decide +kernel)) (fun _ _ _ _ _ => (pg_name (i := 4) sc_cover_of.nd rfl (by first | exact Or.inl rfl | exact Or.inr rfl))) (fun _ _ _ _ _ => pts_nil) (fun _ _ _ _ _ => (pe_tup (pa_cons (pv 4) (pa_cons (pe_go (ok_stack_at T) hg (hr.mono (by decide)) rfl T.d_stack_at.at_ T.d_stack_at.F.kp (bn_stack_at T) pass0 (pa_cons (pv 0) (pa_cons (pv 4) pa_nil))) pa_nil)))))))), ?_⟩
  refine s_seq (s_sortedS (ns := edgesOf sp) e (EvR.is (EvL.toR (el_lc2N (l := sp) (enc := fun p => eFr p.1 p.2) (c0 := fun p => decide (p.1 < p.2)) (ms := fun p => [p.1, p.2]) (enc1 := Dt.int) (c := fun _ _ => true) (f := fun _ x => .int x) (goesN_seq (ev_v rfl r1) (Items.lst _)) ?_ fun q v B2 H2 k' hm e1 e2 rv go => ?_)) ?_) (by omega) fun o v B1 H1 hm hs n1 rv => ?_)
  · have : (((sp.filter fun p => decide (p.1 < p.2)).flatMap fun p => ([p.1, p.2].filter fun _ => true).map fun x => Dt.int x).length) = (edgesOf sp).length := by
      rw [edges_eq, List.length_flatMap, List.length_flatMap]
      simp
    rw [this]
    omega
  · refine g_tupR e2 rv rfl fun us ra => g_consN ra fun x1 _ p1 ra => g_consN ra fun x2 _ p2 ra => g_nilR ra ?_
    cases p1; cases p2
    refine go _ rfl (ec_t (ev_op (ev_v rfl (.int _)) (ev_v rfl (.int _)) rv_lt)) (fun _ => goesN_seq (ds := [q.1, q.2].map Dt.int) (ev_tup (ea_cons (ev_v rfl (.int _)) (ea_cons (ev_v rfl (.int _)) ea_nil)) (by simp)) (Items.tup _)) (fun _ b u B3 H3 k2 hb e3 e4 ru go2 => ?_)
    cases ru
    exact go2 _ rfl ec_yes (fun _ => ev_cb (ea_cons (ev_v rfl (.int _)) ea_nil) rl_int)
  · show Dt.lst _ = Dt.lst _
    rw [edges_eq, List.map_flatMap]
    simp
  walk_at "u_n"
  have hol : o.length ≤ 60 := by
    have hnd : o.Nodup := hs.imp (fun h => Int.ne_of_lt h)
    have := nodup_len hnd (fun x hx => (hm x).mp hx)
    omega
  refine s_ret n1.sub (EvR.is (EvL.toR (el_lcN1 (l := o) (enc := Dt.int) (f := fun x => eFr x (stackAt sp x)) (goesN_seq (ev_v rfl rv) (Items.lst _)) (by omega) fun q v B2 H2 k' hq e1 e2 rv go => ?_)) ?_) (fun v B3 H3 n3 rv => ret v B3 H3 (n1.trans n3) (by unfold covL; rw [← edgeL_eq ⟨hm, hs⟩]; exact rv))
  · cases rv
    exact go _ rfl (ev_tup (ea_cons (ev_v rfl (.int _)) (ea_cons (ev_call (ea_cons (ev_v rfl ((r1.mono n1.ext).mono e1)) (ea_cons (ev_v rfl (.int _)) ea_nil)) ⟨sp, q, rfl, by omega, rfl⟩) ea_nil)) (by simp))
  · unfold coverL
    rw [List.map_map]
    rfl

def g_top_stroke (ds : List Dt) (d : Dt) : Prop := ∃ x : Int, ds = [.int x] ∧ d = .int ((Builtin.Int.intBits x : Nat) - 1)
theorem ok_top_stroke (T : Txt K mg fa fd) : FnG P w K mg base CX0 1 (fa 43) (fd 43) ["stack"] (spD g_top_stroke) := by
  refine fn_D T.d_top_stroke.F sc_top_stroke (fun ds d h => by obtain ⟨_, rfl, _⟩ := h; rfl) (fun cdv Γ below s B H vs ds d Q E hg hr e ra hd ret => ?_)
  obtain ⟨x, rfl, rfl⟩ := hd
  rcases ra with _ | ⟨r1, _ | _⟩
  refine ⟨_, (pss_one (ps_ret (pe_op op_sub (pe_bits (pv 0)) pe_int))), ?_⟩
  exact s_retE e (ev_op (ev_bits (ev_v rfl r1)) ev_i rv_sub) rfl ret

def g_top_colour (ds : List Dt) (d : Dt) : Prop := ∃ (x : Int) (cs : List Int), ds = [.int x, eI cs] ∧ (0 < x → 1 ≤ Builtin.Int.intBits x ∧ Builtin.Int.intBits x ≤ cs.length) ∧ d = .int (topC x cs)
theorem ok_top_colour (T : Txt K mg fa fd) : FnG P w K mg base CX0 2 (fa 44) (fd 44) ["stack", "colours"] (spD g_top_colour) := by
  refine fn_D T.d_top_colour.F sc_top_colour (fun ds d h => by obtain ⟨_, _, rfl, _⟩ := h; rfl) (fun cdv Γ below s B H vs ds d Q E hg hr e ra hd ret => ?_)
  obtain ⟨x, cs, rfl, hx, rfl⟩ := hd
  rcases ra with _ | ⟨r1, _ | ⟨r2, _ | _⟩⟩
  cases r1
  refine ⟨_, (pss_one (ps_ret (pe_ifExp (pt_cmpR op_gt (pv 0) pe_int (nomark _)) (pe_ix (k_ix (K := K) rfl) (pv 1) (pe_go (ok_top_stroke T) hg (hr.mono (by decide)) rfl T.d_top_stroke.at_ T.d_top_stroke.F.kp (bn_top_stroke T) pass0 (pa_cons (pv 0) pa_nil)) (fun _ _ => rfl)) pe_int))), ?_⟩
  refine s_ret e (ev_if (b := decide (0 < x)) (ec_t (ev_op (ev_v rfl (.int _)) ev_i rv_gt)) (fun hb => ?_) (fun hb => ?_)) ret
  · have h0 : 0 < x := of_decide_eq_true hb
    obtain ⟨h1, h2⟩ := hx h0
    refine ev_op (ev_v rfl r2) (ev_call (ea_cons (ev_v rfl (.int _)) ea_nil) ⟨x, rfl, rfl⟩) (rv_ixL ?_)
    have := atI_ints (f := cs) (i := (Builtin.Int.intBits x : Int) - 1) (by omega) (by omega)
    rw [this]
    unfold topC
    rw [if_pos h0]
    congr 3
    omega
  · have h0 : ¬ 0 < x := of_decide_eq_false hb
    exact ev_i.is (by unfold topC; rw [if_neg h0])

def g_unlike_before (ds : List Dt) (d : Dt) : Prop := ∃ (enc : List Int → Dt) (ls : List (List Int)), LnEnc enc ∧ ds = [.lst (ls.map enc)] ∧ ls.length ≤ 1000 ∧ d = .lst ((unl ls).map fun k : Nat => .int (k : Int))
theorem at_map {enc : List Int → Dt} {ls : List (List Int)} {k : Nat} (h : k < ls.length) : (ls.map enc)[k]? = some (enc (ls.getD k [])) := by
  rw [List.getElem?_map, List.getD_eq_getElem?_getD, List.getElem?_eq_getElem h]
  rfl
theorem ok_unlike_before (T : Txt K mg fa fd) : FnG P w K mg base CX0 1 (fa 46) (fd 46) ["lines"] (spD g_unlike_before) := by
  refine fn_D T.d_unlike_before.F sc_unlike_before (fun ds d h => by obtain ⟨_, _, _, rfl, _⟩ := h; rfl) (fun cdv Γ below s B H vs ds d Q E hg hr e ra hd ret => ?_)
  obtain ⟨enc, ls, hL, rfl, hl, rfl⟩ := hd
  rcases ra with _ | ⟨r1, _ | _⟩
  have hu := hr.units
  refine ⟨_, (pss_one (ps_ret (pe_lc (own := [("k", 1)]) (g := (gName 1)) rfl sc_unlike_before.nd (pi_range1 rfl T.n_range (pa_cons (pe_callB (k_len (K := K) rfl) rfl T.n_len (by decide +kernel) (pa_cons (pv 0) pa_nil)) pa_nil)) (blkOk_by (N := ["lines", "k"]) (sc := defScope s_unlike_before) (by decide +kernel)) (fun _ _ _ _ _ => (pg_name (i := 1) sc_unlike_before.nd rfl (by first | exact Or.inl rfl | exact Or.inr rfl))) (fun _ _ _ _ _ => (pts_one (pt_cmpR (k_ne (K := K) rfl hu) (pe_ix (k_ix (K := K) rfl) (pv 0) (pv 1) (fun _ _ => rfl)) (pe_ix (k_ix (K := K) rfl) (pv 0) (pe_op op_sub (pv 1) pe_int) (fun _ _ => rfl)) (nomark _)))) (fun _ _ _ _ _ => (pv 1))))), ?_⟩
  refine s_retE e (ev_lcR (n := ((ls.map enc).length : Nat)) (c := fun k => !decide (ls.getD k [] = ls.getD (prv ls.length k) [])) (f := fun k : Nat => .int (k : Int)) (ea_cons (ev_cb (ea_cons (ev_v rfl r1) ea_nil) rl_lenL) ea_nil) (by rw [List.length_map]; omega) (fun _ => rfl) (fun k B1 hk e1 => ?_) (fun k B1 hk e1 _ => ev_v rfl (.int _))) ?_ ret
  · rw [List.length_map] at hk
    have hk' : k < ls.length := by omega
    have hp : prv ls.length k < ls.length := by unfold prv; split <;> omega
    refine (ec_t (ev_op (ev_op (ev_v rfl (r1.mono e1)) (ev_v rfl (.int _)) (rv_ixL (d := enc (ls.getD k [])) (atI_nat' (at_map hk')))) (ev_op (ev_v rfl (r1.mono e1)) (ev_op (ev_v rfl (.int _)) ev_i rv_sub) (rv_ixL (d := enc (ls.getD (prv ls.length k) [])) ?_)) (rv_inr (rv_neD (hL.1 _) (hL.1 _))))).is (by rw [hL.2])
    unfold prv
    by_cases h0 : k = 0
    · rw [if_pos h0, h0]
      have := atI_last' (xs := ls.map enc) (v := enc (ls.getD (ls.length - 1) [])) (by rw [List.length_map]; exact at_map (by omega))
      exact this
    · rw [if_neg h0]
      have ek : ((k : Nat) : Int) - 1 = ((k - 1 : Nat) : Int) := by omega
      rw [ek]
      exact atI_nat' (at_map (by omega))
  · rw [List.length_map, Int.toNat_natCast]
    rfl

def frmA (w : Nat) (g : List (List Int)) : List Nat := unl (colsOf w g)
def frmG (g : List (List Int)) (ac dn : List Nat) : List (List Int) := dn.dropLast.map fun j => ac.dropLast.map fun i => (g.getD j []).getD i 0
def eG (g : List (List Int)) : Dt := .lst (g.map eI)
/-- columns, rows, colours as they are told -/
def frm (cs rs : List (Int × Int)) (g : List (List Int)) : Dt := .tup [eI ((frmA cs.length g).map fun i => (cs.getD i (0, 0)).1), eI ((unl g).map fun j => (rs.getD j (0, 0)).1), eG (frmG g (frmA cs.length g) (unl g))]
def gg_framed (ds : List Dt) (C R : List Int) (G : List (List Int)) : Prop := ∃ (cs rs : List (Int × Int)) (g : List (List Int)), ds = [.lst (cs.map fun p => eFr p.1 p.2), .lst (rs.map fun p => eFr p.1 p.2), eG g] ∧ g.length = rs.length ∧ (∀ r ∈ g, r.length = cs.length) ∧ rs.length ≤ 24 ∧ cs.length ≤ 1000 ∧ C = ((frmA cs.length g).map fun i => (cs.getD i (0, 0)).1) ∧ R = ((unl g).map fun j => (rs.getD j (0, 0)).1) ∧ G = frmG g (frmA cs.length g) (unl g)
theorem unl_lt {ls : List (List Int)} {k : Nat} (h : k ∈ unl ls) : k < ls.length := List.mem_range.mp (List.mem_filter.mp h).1
theorem unl_len (ls : List (List Int)) : (unl ls).length ≤ ls.length := Nat.le_trans (List.length_filter_le _ _) (Nat.le_of_eq List.length_range)
theorem cut_last {α : Type} (f : α → Dt) (xs : List α) : (xs.map f).dropLast = xs.dropLast.map f := (List.map_dropLast ..).symm
theorem ok_framed (T : Txt K mg fa fd) : FnG P w K mg base CX0 2 (fa 47) (fd 47) ["columns", "rows", "grid"] (spPO gg_framed) := by
  refine fn_PO T.d_framed.F sc_framed (fun ds C R G h => by obtain ⟨_, _, _, rfl, _⟩ := h; rfl) (fun cdv Γ below s B H vs ds C R G Q E hg hr e ra hd ret => ?_)
  obtain ⟨cs, rs, g, rfl, hgr, hgc, hr24, hcl, rfl, rfl, rfl⟩ := hd
  rcases ra with _ | ⟨r1, _ | ⟨r2, _ | ⟨r3, _ | _⟩⟩⟩
  have hu := hr.units
  refine ⟨_, (pss_cons (ps_set (i := 3) sc_framed.nd rfl (by first | exact Or.inl rfl | exact Or.inr rfl) (pe_go (ok_unlike_before T) hg (hr.mono (by decide)) rfl T.d_unlike_before.at_ T.d_unlike_before.F.kp (bn_unlike_before T) pass0 (pa_cons (pe_listZip rfl rfl T.n_list rfl T.n_zip (pv 2)) pa_nil))) (pss_cons (ps_set (i := 4) sc_framed.nd rfl (by first | exact Or.inl rfl | exact Or.inr rfl) (pe_go (ok_unlike_before T) hg (hr.mono (by decide)) rfl T.d_unlike_before.at_ T.d_unlike_before.F.kp (bn_unlike_before T) pass0 (pa_cons (pv 2) pa_nil))) (pss_one (ps_ret (pe_tup (pa_cons (pe_lc (own := [("i", 5)]) (g := (gName 5)) (tt := tYes) rfl sc_framed.nd (k_seq (K := K) rfl (pv 3)) (blkOk_by (N := ["columns", "rows", "grid", "across", "down", "i", "j"]) (sc := defScope s_framed) (by decide +kernel)) (fun _ _ _ _ _ => (pg_name (i := 5) sc_framed.nd rfl (by first | exact Or.inl rfl | exact Or.inr rfl))) (fun _ _ _ _ _ => pts_nil) (fun _ _ _ _ _ => (pe_ix (k_ix (K := K) rfl) (pe_ix (k_ix (K := K) rfl) (pv 0) (pv 5) (fun _ _ => rfl)) pe_int (fun _ _ => rfl)))) (pa_cons (pe_lc (own := [("j", 6)]) (g := (gName 6)) (tt := tYes) rfl sc_framed.nd (k_seq (K := K) rfl (pv 4)) (blkOk_by (N := ["columns", "rows", "grid", "across", "down", "i", "j"]) (sc := defScope s_framed) (by decide +kernel)) (fun _ _ _ _ _ => (pg_name (i := 6) sc_framed.nd rfl (by first | exact Or.inl rfl | exact Or.inr rfl))) (fun _ _ _ _ _ => pts_nil) (fun _ _ _ _ _ => (pe_ix (k_ix (K := K) rfl) (pe_ix (k_ix (K := K) rfl) (pv 1) (pv 6) (fun _ _ => rfl)) pe_int (fun _ _ => rfl)))) (pa_cons (pe_lc (own := [("j", 6)]) (g := (gName 6)) (tt := tYes) rfl sc_framed.nd (k_seq (K := K) rfl (pe_slice (k_slice (K := K) rfl) (pv 4) po_none (po_some (pe_un un_neg pe_int)))) (blkOk_by (N := ["columns", "rows", "grid", "across", "down", "i", "j"]) (sc := defScope s_framed) (by decide +kernel)) (fun _ _ _ _ _ => (pg_name (i := 6) sc_framed.nd rfl (by first | exact Or.inl rfl | exact Or.inr rfl))) (fun _ _ _ _ _ => pts_nil) (fun _ _ _ _ _ => (pe_lc (own := [("i", 5)]) (g := (gName 5)) (tt := tYes) rfl sc_framed.nd (k_seq (K := K) rfl (pe_slice (k_slice (K := K) rfl) (pv 3) po_none (po_some (pe_un un_neg pe_int)))) (blkOk_by (by kernel_rfl)) (fun _ _ _ _ _ => (pg_name (i := 5) sc_framed.nd rfl (by first | exact Or.inl rfl | exact Or.inr rfl))) (fun _ _ _ _ _ => pts_nil) (fun _ _ _ _ _ => (pe_ix (k_ix (K := K) rfl) (pe_ix (k_ix (K := K) rfl) (pv 2) (pv 6) (fun _ _ => rfl)) (pv 5) (fun _ _ => rfl)))))) pa_nil)))))))), ?_⟩
  have hcw : (colsOf cs.length g).length ≤ cs.length := by
    unfold colsOf
    split
    · exact Nat.zero_le _
    · rw [List.length_map, List.length_range]; exact Nat.le_refl _
  refine s_seq (s_asg e (ev_call (ea_cons (ev_listZip (ev_v rfl r3) hgc (by omega) hcl) ea_nil) ⟨eT, colsOf cs.length g, ln_eT, rfl, by omega, rfl⟩) fun v1 B1 H1 n1 q1 => ?_)
  walk_at "u_n"
  refine s_seq (s_asg n1.sub (ev_call (ea_cons (ev_v rfl (r3.mono n1.ext)) ea_nil) ⟨eI, g, ln_eI, rfl, by omega, rfl⟩) fun v2 B2 H2 n2 q2 => ?_)
  walk_at "u_n"
  have E2 := n1.ext.trans n2.ext
  have hal := unl_len (colsOf cs.length g)
  have hdl := unl_len g
  have ha : ∀ i ∈ unl (colsOf cs.length g), i < cs.length := fun i hi => Nat.lt_of_lt_of_le (unl_lt hi) hcw
  have hd : ∀ i ∈ unl g, i < g.length := fun i hi => unl_lt hi
  have q1 := q1.mono n2.ext
  refine s_retPO n2.sub (epo_tup (EvL.isL (el_lcN1 (l := unl (colsOf cs.length g)) (enc := fun k : Nat => .int (k : Int)) (f := fun i => .int (cs.getD i (0, 0)).1) (goesN_seq (ev_v rfl q1) (Items.lst _)) (by omega) fun q v B3 H3 k' hm e1 e2 rv go => ?_) ?_) (EvL.isL (el_lcN1 (l := unl g) (enc := fun k : Nat => .int (k : Int)) (f := fun j => .int (rs.getD j (0, 0)).1) (goesN_seq (ev_v rfl q2) (Items.lst _)) (by omega) fun q v B3 H3 k' hm e1 e2 rv go => ?_) ?_)
    (ell_lcN1 (l := (unl g).dropLast) (enc := fun k : Nat => .int (k : Int)) (f := fun j => (unl (colsOf cs.length g)).dropLast.map fun i => (g.getD j []).getD i 0) (goesN_seq ((ev_slD (ev_v rfl q2) (ev_un ev_i ru_neg)).is (by rw [cut_last])) (Items.lst _)) (by rw [List.length_dropLast]; omega) fun q v B3 H3 k' hm e1 e2 rv go => ?_)) (fun t l m p rs' B3 H3 n3 o => ret t l m p rs' B3 H3 ((n1.trans n2).trans n3) (o.base (n1.heap.trans n2.heap)))
  · cases rv
    have hq := ha q hm
    exact go _ rfl (ev_op (ev_op (ev_v rfl ((r1.mono E2).mono e1)) (ev_v rfl (.int _)) (rv_ixL (d := eFr (cs.getD q (0, 0)).1 (cs.getD q (0, 0)).2) (atI_nat' (by rw [List.getElem?_map, List.getD_eq_getElem?_getD, List.getElem?_eq_getElem hq]; rfl)))) ev_i (rv_ixT rfl))
  · rw [List.map_map]; rfl
  · cases rv
    have hq := hd q hm
    exact go _ rfl (ev_op (ev_op (ev_v rfl ((r2.mono E2).mono e1)) (ev_v rfl (.int _)) (rv_ixL (d := eFr (rs.getD q (0, 0)).1 (rs.getD q (0, 0)).2) (atI_nat' (by rw [List.getElem?_map, List.getD_eq_getElem?_getD, List.getElem?_eq_getElem (by omega)]; rfl)))) ev_i (rv_ixT rfl))
  · rw [List.map_map]; rfl
  · cases rv
    have hq := hd q (List.dropLast_subset _ hm)
    refine go _ rfl (EvL.isL (el_lcN1 (l := (unl (colsOf cs.length g)).dropLast) (enc := fun k : Nat => .int (k : Int)) (f := fun i => .int ((g.getD q []).getD i 0)) (goesN_seq ((ev_slD (ev_v rfl (q1.mono e1)) (ev_un ev_i ru_neg)).is (by rw [cut_last])) (Items.lst _)) (by rw [List.length_dropLast]; omega) fun i v B4 H4 k2 hm2 e3 e4 rv2 go2 => ?_) ?_)
    · cases rv2
      have hi := ha i (List.dropLast_subset _ hm2)
      have hrow : (g.getD q []).length = cs.length := by
        rw [List.getD_eq_getElem?_getD, List.getElem?_eq_getElem hq]
        exact hgc _ (List.getElem_mem hq)
      exact go2 _ rfl (ev_op (ev_op (ev_v rfl (((r3.mono E2).mono e1).mono e3)) (ev_v rfl (.int _)) (rv_ixL (d := eI (g.getD q [])) (atI_nat' (at_map hq)))) (ev_v rfl (.int _)) (rv_ixL (atI_ints (by omega) (by omega))))
    · rw [List.map_map]; rfl

def Small (cols : List Int) (cs : List (Int × Int)) : Prop := ∀ p ∈ cs, ∃ k : Nat, p.2 = (k : Int) ∧ k < 2 ^ cols.length
def frmC (cs : List (Int × Int)) (g : List (List Int)) : List Int := (frmA cs.length g).map fun i => (cs.getD i (0, 0)).1
def frmR (rs : List (Int × Int)) (g : List (List Int)) : List Int := (unl g).map fun j => (rs.getD j (0, 0)).1
def frmK (cs : List (Int × Int)) (g : List (List Int)) : List (List Int) := frmG g (frmA cs.length g) (unl g)
def gg_painted (ds : List Dt) (C R : List Int) (G : List (List Int)) : Prop := ∃ (cs rs : List (Int × Int)) (cols : List Int), ds = [.lst (cs.map fun p => eFr p.1 p.2), .lst (rs.map fun p => eFr p.1 p.2), eI cols] ∧ Small cols cs ∧ Small cols rs ∧ rs.length ≤ 24 ∧ cs.length ≤ 1000 ∧ C = frmC cs (gridL cs rs cols) ∧ R = frmR rs (gridL cs rs cols) ∧ G = frmK cs (gridL cs rs cols)
theorem ok_painted (T : Txt K mg fa fd) : FnG P w K mg base CX0 3 (fa 48) (fd 48) ["columns", "rows", "colours"] (spPO gg_painted) := by
  refine fn_PO T.d_painted.F sc_painted (fun ds C R G h => by obtain ⟨_, _, _, rfl, _⟩ := h; rfl) (fun cdv Γ below s B H vs ds C R G Q E hg hr e ra hd ret => ?_)
  obtain ⟨cs, rs, cols, rfl, h1, h2, hr24, hcl, rfl, rfl, rfl⟩ := hd
  rcases ra with _ | ⟨r1, _ | ⟨r2, _ | ⟨r3, _ | _⟩⟩⟩
  have hu := hr.units
  refine ⟨_, (pss_one (ps_ret (pe_go (ok_framed T) hg (hr.mono (by decide)) rfl T.d_framed.at_ T.d_framed.F.kp (bn_framed T) pass0 (pa_cons (pv 0) (pa_cons (pv 1) (pa_cons (pe_lc (own := [("y", 5), ("high", 6)]) (g := (gTup K 2 (gCons (gName 5) (gCons (gName 6) gNil)))) (tt := tYes) rfl sc_painted.nd (k_seq (K := K) rfl (pv 1)) (blkOk_by (N := ["columns", "rows", "colours", "x", "wide", "y", "high"]) (sc := defScope s_painted) (by decide +kernel)) (fun _ _ _ _ _ => (pg_tup rfl (pgs_cons (pg_name (i := 5) sc_painted.nd rfl (by first | exact Or.inl rfl | exact Or.inr rfl)) (pgs_cons (pg_name (i := 6) sc_painted.nd rfl (by first | exact Or.inl rfl | exact Or.inr rfl)) pgs_nil)))) (fun _ _ _ _ _ => pts_nil) (fun _ _ _ _ _ => (pe_lc (own := [("x", 3), ("wide", 4)]) (g := (gTup K 2 (gCons (gName 3) (gCons (gName 4) gNil)))) (tt := tYes) rfl sc_painted.nd (k_seq (K := K) rfl (pv 0)) (blkOk_by (by kernel_rfl)) (fun _ _ _ _ _ => (pg_tup rfl (pgs_cons (pg_name (i := 3) sc_painted.nd rfl (by first | exact Or.inl rfl | exact Or.inr rfl)) (pgs_cons (pg_name (i := 4) sc_painted.nd rfl (by first | exact Or.inl rfl | exact Or.inr rfl)) pgs_nil)))) (fun _ _ _ _ _ => pts_nil) (fun _ _ _ _ _ => (pe_go (ok_top_colour T) hg (hr.mono (by decide)) rfl T.d_top_colour.at_ T.d_top_colour.F.kp (bn_top_colour T) pass0 (pa_cons (pe_op op_and (pv 4) (pv 6)) (pa_cons (pv 2) pa_nil))))))) pa_nil)))))), ?_⟩
  refine s_retPO e (epo_call (ea_cons (ev_v rfl r1) (ea_cons (ev_v rfl r2) (ea_cons (EvR.is (d := .lst (rs.map fun p => eI (cs.map fun q => topC (Builtin.bitAnd q.2 p.2) cols))) (e := eG (gridL cs rs cols)) (EvL.toR (el_lcN1 (l := rs) (enc := fun p => eFr p.1 p.2) (f := fun p => eI (cs.map fun q => topC (Builtin.bitAnd q.2 p.2) cols)) (goesN_seq (ev_v rfl r2) (Items.lst _)) (by omega) fun q v B3 H3 k' hm e1 e2 rv go => ?_)) ?_) ea_nil))) ⟨cs, rs, gridL cs rs cols, rfl, ?_, ?_, hr24, hcl, rfl, rfl, rfl⟩) ret
  · refine g_tupR e2 rv rfl fun us ra => g_consN ra fun x1 _ p1 ra => g_consN ra fun x2 _ p2 ra => g_nilR ra ?_
    refine go _ rfl (EvR.is (EvL.toR (el_lcN1 (l := cs) (enc := fun p => eFr p.1 p.2) (f := fun p => .int (topC (Builtin.bitAnd p.2 q.2) cols)) (goesN_seq (ev_v rfl (r1.mono e1)) (Items.lst _)) (by omega) fun q' v B4 H4 k2 hm2 e3 e4 rv2 go2 => ?_)) ?_)
    · refine g_tupR e4 rv2 rfl fun us ra => g_consN ra fun y1 _ w1 ra => g_consN ra fun y2 _ w2 ra => g_nilR ra ?_
      refine go2 _ rfl (ev_call (ea_cons (ev_op (ev_v rfl w2) (ev_v rfl (p2.mono e3)) rv_and) (ea_cons (ev_v rfl ((r3.mono e1).mono e3)) ea_nil)) ⟨_, cols, rfl, fun h0 => ?_, rfl⟩)
      obtain ⟨a, ea, ha⟩ := h1 q' hm2
      obtain ⟨b, eb, hb⟩ := h2 q hm
      rw [ea, eb] at h0 ⊢
      exact top_ok ha h0
    · show Dt.lst _ = Dt.lst _
      rw [List.map_map]
      rfl
  · unfold eG gridL
    rw [List.map_map]
    rfl
  · unfold gridL
    rw [List.length_map]
  · intro r hr
    unfold gridL at hr
    obtain ⟨p, _, rfl⟩ := List.mem_map.mp hr
    rw [List.length_map]

noncomputable def colX (ax : Bool) (ss : List Sm) (vs : List Int) : List (Int × Int) := covL (spansA ax (skP ss (0, 0) (unb, unb)) vs)
def colsP (ss : List Sm) : List Int := (skP ss (0, 0) (unb, unb)).map Sk.col
noncomputable def picD (ss : List Sm) (p q : List Int) : Dt := frm (colX true ss p) (colX false ss q) (gridL (colX true ss p) (colX false ss q) (colsP ss))
def PicOk (a b : Int) (ss : List Sm) (p q : List Int) : Prop := okP a b 8 ss ∧ szP ss ≤ 12 ∧ SetOk a b p q
noncomputable def gridX (ss : List Sm) (p q : List Int) : List (List Int) := gridL (colX true ss p) (colX false ss q) (colsP ss)
noncomputable def lookL (ss : List Sm) (p q : List Int) : List (List Int) := frmG (gridX ss p q) (frmA (colX true ss p).length (gridX ss p q)) (unl (gridX ss p q))
noncomputable def colT (ss : List Sm) (p q : List Int) : List Int := (frmA (colX true ss p).length (gridX ss p q)).map fun i => ((colX true ss p).getD i (0, 0)).1
noncomputable def rowT (ss : List Sm) (p q : List Int) : List Int := (unl (gridX ss p q)).map fun j => ((colX false ss q).getD j (0, 0)).1
def gg_picture_of (ds : List Dt) (C R : List Int) (G : List (List Int)) : Prop := ∃ (a b : Int) (ss : List Sm) (p q : List Int), ds = [.tup (ePg ss), eSet p q] ∧ PicOk a b ss p q ∧ C = colT ss p q ∧ R = rowT ss p q ∧ G = lookL ss p q
theorem zip_set (p q : List Int) : zipS "xy" [eI p, eI q] = [(true, p), (false, q)].map fun x => .tup [.str (axS x.1), eI x.2] := by
  kernel_rfl
theorem goes_set {σ : L2.St} {B : Hp} {tl : TA} {p q : List Int} (h : EvRA tl σ B [.str "xy", eSet p q]) : GoesN (iZipS K tl) σ B ([(true, p), (false, q)].map fun x => .tup [.str (axS x.1), eI x.2]) := by
  rw [← zip_set]
  exact goesN_zipS h
theorem ok_picture_of (T : Txt K mg fa fd) : FnG P w K mg base CX0 24 (fa 49) (fd 49) ["program", "setting"] (spPO gg_picture_of) := by
  refine fn_PO T.d_picture_of.F sc_picture_of (fun ds C R G h => by obtain ⟨_, _, _, _, _, rfl, _⟩ := h; rfl) (fun cdv Γ below s B H vs ds C R G Q E hg hr e ra hd ret => ?_)
  obtain ⟨a, b, ss, p, q, rfl, ⟨hok, hsz, h1, h2, hf⟩, rfl, rfl, rfl⟩ := hd
  rcases ra with _ | ⟨r1, _ | ⟨r2, _ | _⟩⟩
  have hu := hr.units
  refine ⟨_, (pss_cons (ps_set (i := 2) sc_picture_of.nd rfl (by first | exact Or.inl rfl | exact Or.inr rfl) (pe_go (ok_strokes_of T) hg (hr.mono (by decide)) rfl T.d_strokes_of.at_ T.d_strokes_of.F.kp (bn_strokes_of T) pass0 (pa_cons (pv 0) pa_nil))) (pss_cons (ps_asg (pe_lc (own := [("axis", 5), ("values", 6)]) (g := (gTup K 2 (gCons (gName 5) (gCons (gName 6) gNil)))) (tt := tYes) rfl sc_picture_of.nd (k_zipS (K := K) rfl rfl T.n_zip (pa_cons pe_str (pa_cons (pv 1) pa_nil))) (blkOk_by (N := ["program", "setting", "strokes", "columns", "rows", "axis", "values"]) (sc := defScope s_picture_of) (by decide +kernel)) (fun _ _ _ _ _ => (pg_tup rfl (pgs_cons (pg_name (i := 5) sc_picture_of.nd rfl (by first | exact Or.inl rfl | exact Or.inr rfl)) (pgs_cons (pg_name (i := 6) sc_picture_of.nd rfl (by first | exact Or.inl rfl | exact Or.inr rfl)) pgs_nil)))) (fun _ _ _ _ _ => pts_nil) (fun _ _ _ _ _ => (pe_go (ok_cover_of T) hg (hr.mono (by decide)) rfl T.d_cover_of.at_ T.d_cover_of.F.kp (bn_cover_of T) pass0 (pa_cons (pe_go (ok_spans_on T) hg (hr.mono (by decide)) rfl T.d_spans_on.at_ T.d_spans_on.F.kp (bn_spans_on T) pass0 (pa_cons (pv 5) (pa_cons (pv 2) (pa_cons (pv 6) pa_nil)))) pa_nil)))) (pg_lst rfl (pgs_cons (pg_name (i := 3) sc_picture_of.nd rfl (by first | exact Or.inl rfl | exact Or.inr rfl)) (pgs_cons (pg_name (i := 4) sc_picture_of.nd rfl (by first | exact Or.inl rfl | exact Or.inr rfl)) pgs_nil)))) (pss_one (ps_ret (pe_go (ok_painted T) hg (hr.mono (by decide)) rfl T.d_painted.at_ T.d_painted.F.kp (bn_painted T) pass0 (pa_cons (pv 3) (pa_cons (pv 4) (pa_cons (pe_go (ok_colours_of T) hg (hr.mono (by decide)) rfl T.d_colours_of.at_ T.d_colours_of.F.kp (bn_colours_of T) pass0 (pa_cons (pv 2) pa_nil)) pa_nil)))))))), ?_⟩
  have hsk := skP_len ss (0, 0) (unb, unb)
  have hin := sk_in h1 h2 8 0 ss (0, 0) (unb, unb) hok ⟨BdP.unb, BdP.unb⟩ ⟨by simp [unb], by simp [unb], by simp [unb], by simp [unb], by simp [unb], by simp [unb]⟩ (by decide)
  refine s_seq (s_asg e (ev_call (ea_cons (ev_v rfl r1) ea_nil) ⟨a, b, ss, rfl, hok, by omega, rfl⟩) fun v1 B1 H1 n1 q1 => ?_)
  walk_at "u_n"
  refine s_seq ((EvL.toR (el_lcN1 (l := [(true, p), (false, q)]) (f := fun x => .lst ((colX x.1 ss x.2).map fun p => eFr p.1 p.2)) (goes_set (ea_cons ev_s (ea_cons (ev_v rfl (r2.mono n1.ext)) ea_nil))) (by show 2 < 100000; decide) fun x v B3 H3 k' hm e1 e2 rv go => ?_)) H1 n1.sub _ fun w B2 H2 n2 rw' => ?_)
  · refine g_tupR e2 rv rfl fun us ra => g_consN ra fun x1 _ p1 ra => g_consN ra fun x2 _ p2 ra => g_nilR ra ?_
    refine go _ rfl (ev_call (ea_cons (ev_call (ea_cons (ev_v rfl p1) (ea_cons (ev_v rfl (q1.mono e1)) (ea_cons (ev_v rfl p2) ea_nil))) ⟨x.1, _, x.2, rfl, by omega, fun s hs => ?_, rfl⟩) ea_nil) ⟨_, rfl, by unfold spansA; rw [List.length_map]; omega, rfl⟩)
    have := hin s hs
    rcases List.mem_cons.mp hm with rfl | hm
    · exact this.1
    · rw [List.mem_singleton.mp hm]; exact this.2
  refine g_lstR n2.sub rw' rfl fun us ra => g_consN ra fun w1 _ p1 ra => g_consN ra fun w2 _ p2 ra => g_nilR ra ?_
  walk_at "u_n"
  have lenX : ∀ (ax : Bool) (vs : List Int), (colX ax ss vs).length ≤ 24 := fun ax vs => by
    unfold colX covL coverL
    rw [List.length_map]
    have := edgeL_len (spansA ax (skP ss (0, 0) (unb, unb)) vs)
    unfold spansA at this ⊢
    rw [List.length_map] at this
    omega
  have smX : ∀ (ax : Bool) (vs : List Int), Small (colsP ss) (colX ax ss vs) := fun ax vs x hx => by
    obtain ⟨k, h1, h2⟩ := cov_small hx
    refine ⟨k, h1, ?_⟩
    unfold spansA at h2
    unfold colsP
    rw [List.length_map] at h2 ⊢
    exact h2
  exact s_retPO n2.sub (epo_call (ea_cons (ev_v rfl p1) (ea_cons (ev_v rfl p2) (ea_cons (ev_call (ea_cons (ev_v rfl (q1.mono n2.ext)) ea_nil) ⟨_, rfl, by omega, rfl⟩) ea_nil))) ⟨colX true ss p, colX false ss q, colsP ss, rfl, smX _ _, smX _ _, lenX _ _, by have := lenX true p; omega, rfl, rfl, rfl⟩) (fun t l m g rs B3 H3 n3 o => ret t l m g rs B3 H3 ((n1.trans n2).trans n3) (o.base (n1.heap.trans n2.heap)))

def gg_picture (ds : List Dt) (C R : List Int) (G : List (List Int)) : Prop := ∃ (a b : Int) (ss : List Sm) (p q : List Int), ds = [eFr a b, .tup (ePg ss), eSet p q] ∧ PicOk a b ss p q ∧ C = colT ss p q ∧ R = rowT ss p q ∧ G = lookL ss p q
theorem ok_picture (T : Txt K mg fa fd) : FnG P w K mg base CX0 25 (fa 50) (fd 50) ["frame", "program", "setting"] (spPO gg_picture) := by
  refine fn_PO T.d_picture.F sc_picture (fun ds C R G h => by obtain ⟨_, _, _, _, _, rfl, _⟩ := h; rfl) (fun cdv Γ below s B H vs ds C R G Q E hg hr e ra hd ret => ?_)
  obtain ⟨a, b, ss, p, q, rfl, hp, rfl, rfl, rfl⟩ := hd
  have hp' := hp
  obtain ⟨hok, hsz, hs⟩ := hp'
  rcases ra with _ | ⟨r1, _ | ⟨r2, _ | ⟨r3, _ | _⟩⟩⟩
  refine ⟨_, (pss_cons (ps_expr (pe_go (ok_need_program T) hg (hr.mono (by decide)) rfl T.d_need_program.at_ T.d_need_program.F.kp (bn_need_program T) pass0 (pa_cons (pv 0) (pa_cons (pv 1) pa_nil)))) (pss_cons (ps_expr (pe_go (ok_need_setting T) hg (hr.mono (by decide)) rfl T.d_need_setting.at_ T.d_need_setting.F.kp (bn_need_setting T) pass0 (pa_cons (pv 0) (pa_cons (pv 2) pa_nil)))) (pss_one (ps_ret (pe_go (ok_picture_of T) hg (hr.mono (by decide)) rfl T.d_picture_of.at_ T.d_picture_of.F.kp (bn_picture_of T) pass0 (pa_cons (pv 1) (pa_cons (pv 2) pa_nil))))))), ?_⟩
  refine s_seq (s_drop e (ev_call (by walk_at "u_ea") ⟨a, b, ss, rfl, hs.2.2, hok, by omega, rfl⟩) fun H1 u1 => ?_)
  walk_at "u_n"
  refine s_seq (s_drop u1.sub (ev_call (by walk_at "u_ea") ⟨a, b, p, q, rfl, hs, rfl⟩) fun H2 u2 => ?_)
  walk_at "u_n"
  exact s_retPO u2.sub (epo_call (by walk_at "u_ea") ⟨a, b, ss, p, q, rfl, hp, rfl, rfl, rfl⟩) (fun t l m g rs B3 H3 n3 o => ret t l m g rs B3 H3 ((u1.new.trans u2.new).trans n3) (o.base (u1.heap.trans u2.heap)))



def gg_look (ds : List Dt) (G : List (List Int)) : Prop := ∃ (a b : Int) (ss : List Sm) (p q : List Int), ds = [eFr a b, .tup (ePg ss), eSet p q] ∧ PicOk a b ss p q ∧ G = lookL ss p q
theorem ok_look (T : Txt K mg fa fd) : FnG P w K mg base CX0 25 (fa 51) (fd 51) ["frame", "program", "setting"] (spGO gg_look) := by
  refine fn_GO T.d_look.F sc_look (fun ds G h => by obtain ⟨_, _, _, _, _, rfl, _⟩ := h; rfl) (fun cdv Γ below s B H vs ds G Q E hg hr e ra hd ret => ?_)
  obtain ⟨a, b, ss, p, q, rfl, hp, rfl⟩ := hd
  have hp' := hp
  obtain ⟨hok, hsz, hs⟩ := hp'
  rcases ra with _ | ⟨r1, _ | ⟨r2, _ | ⟨r3, _ | _⟩⟩⟩
  refine ⟨_, (pss_cons (ps_expr (pe_go (ok_need_program T) hg (hr.mono (by decide)) rfl T.d_need_program.at_ T.d_need_program.F.kp (bn_need_program T) pass0 (pa_cons (pv 0) (pa_cons (pv 1) pa_nil)))) (pss_cons (ps_expr (pe_go (ok_need_setting T) hg (hr.mono (by decide)) rfl T.d_need_setting.at_ T.d_need_setting.F.kp (bn_need_setting T) pass0 (pa_cons (pv 0) (pa_cons (pv 2) pa_nil)))) (pss_cons (ps_asg (pe_go (ok_picture_of T) hg (hr.mono (by decide)) rfl T.d_picture_of.at_ T.d_picture_of.F.kp (bn_picture_of T) pass0 (pa_cons (pv 1) (pa_cons (pv 2) pa_nil))) (pg_tup rfl (pgs_cons (pg_name (i := 3) sc_look.nd rfl (by first | exact Or.inl rfl | exact Or.inr rfl)) (pgs_cons (pg_name (i := 4) sc_look.nd rfl (by first | exact Or.inl rfl | exact Or.inr rfl)) (pgs_cons (pg_name (i := 5) sc_look.nd rfl (by first | exact Or.inl rfl | exact Or.inr rfl)) pgs_nil))))) (pss_one (ps_ret (pv 5)))))), ?_⟩
  refine s_seq (s_drop e (ev_call (by walk_at "u_ea") ⟨a, b, ss, rfl, hs.2.2, hok, by omega, rfl⟩) fun H1 u1 => ?_)
  walk_at "u_n"
  refine s_seq (s_drop u1.sub (ev_call (by walk_at "u_ea") ⟨a, b, p, q, rfl, hs, rfl⟩) fun H2 u2 => ?_)
  walk_at "u_n"
  refine s_seq ((epo_call (ea_cons (ev_v rfl r2) (ea_cons (ev_v rfl r3) ea_nil)) ⟨a, b, ss, p, q, rfl, hp, rfl, rfl, rfl⟩) H2 u2.sub _ fun t l m g rs B2 H3 n2 o => ⟨t, _, rfl, st_of o.ht, rfl, _, _, rfl, _, _, rfl, _, _, rfl, rfl, ?_⟩)
  walk_at "u_m"
  exact ⟨_, rfl, ret g rs B2 H3 ((u1.new.trans u2.new).trans n2) ⟨o.hg, o.rows, (List.nodup_cons.mp (List.nodup_cons.mp (List.nodup_cons.mp o.nd).2).2).2, fun a ha => by
    have := o.own a (by simp only [List.mem_cons] at ha ⊢; exact .inr (.inr (.inr ha)))
    exact ⟨fresh_back (u1.heap.trans u2.heap) this.1, this.2⟩⟩⟩

/-! ### the deck -/
def spDeck (K : PySem.W.Frag) : Sp := fun vs H Q _ => ∃ (a : Addr) (ns : List Int), vs = [.ref a] ∧ SqL K H a (ns.map V.int) ∧ ns.length ≤ 63 ∧ ∀ p q H2, Ex H H2 → Dk p q H2 → Q (.ref p) H2
theorem dk_of {B : Hp} {v : V} {xs : List Int} {i s c : Int} (r : R B v (.lst [.lst (xs.map .int), .int i, .int s, .int c])) (nn : ∀ n ∈ xs, 0 ≤ n) (len : xs.length ≤ 63) (i0 : 0 ≤ i) (s0 : 0 ≤ s) (s1 : s < 2147483647) : ∃ p q, v = .ref p ∧ ∀ H, Ex B H → DkAt p q H xs i s c := by
  obtain ⟨p, vs, rfl, hp, ra⟩ := r.lst_inv
  rcases ra with _ | ⟨r1, _ | ⟨r2, _ | ⟨r3, _ | ⟨r4, _ | _⟩⟩⟩⟩
  cases r2; cases r3; cases r4
  obtain ⟨q, ws, rfl, hq, rb⟩ := r1.lst_inv
  have ew := rb.ints_inv
  subst ew
  refine ⟨p, q, rfl, fun H e => ⟨fun z => ?_, e _ _ hp, e _ _ hq, nn, len, i0, s0, s1⟩⟩
  subst z
  rw [hp] at hq
  cases xs with
  | nil => cases hq
  | cons x xs => cases hq
theorem ok__law_deck (T : Txt K mg fa fd) : FnG P w K mg base CX0 1 (fa 53) (fd 53) ["script"] (spDeck K) := by
  refine fn_S T.d__law_deck.F sc__law_deck (fun vs H Q E h => by obtain ⟨_, _, rfl, _⟩ := h; rfl) (fun cdv Γ below s H vs Q E hg hr h => ?_)
  obtain ⟨a, ns, rfl, hs, hl, ret⟩ := h
  have hu := hr.units
  refine ⟨_, (pss_cons (ps_set (i := 1) sc__law_deck.nd rfl (by first | exact Or.inl rfl | exact Or.inr rfl) pe_int) (pss_cons (ps_for PassesOwn.never rfl (k_seq (K := K) rfl (pe_slice (k_slice (K := K) rfl) (pv 0) po_none (po_some pe_int))) (pg_name (i := 2) sc__law_deck.nd rfl (by first | exact Or.inl rfl | exact Or.inr rfl)) (pss_one (ps_set (i := 1) sc__law_deck.nd rfl (by first | exact Or.inl rfl | exact Or.inr rfl) (pe_op op_mod (pe_callTy c_int rfl T.n_int (by decide +kernel) (pa_cons (pe_op op_addA (pe_op op_addA (pe_op op_mul (pv 1) pe_int) (pe_op op_mod (pe_callTy c_int rfl T.n_int (by decide +kernel) (pa_cons (pv 2) pa_nil)) pe_int)) pe_int) pa_nil)) pe_int)))) (pss_one (ps_ret (pe_lst (pa_cons (pe_lc (own := [("cell", 2)]) (g := (gName 2)) (tt := tYes) rfl sc__law_deck.nd (k_seq (K := K) rfl (pe_slice (k_slice (K := K) rfl) (pv 0) po_none (po_some pe_int))) (blkOk_by (N := ["script", "seed", "cell"]) (sc := defScope s__law_deck) (by decide +kernel)) (fun _ _ _ _ _ => (pg_name (i := 2) sc__law_deck.nd rfl (by first | exact Or.inl rfl | exact Or.inr rfl))) (fun _ _ _ _ _ => pts_nil) (fun _ _ _ _ _ => (pe_op op_mod (pe_callTy c_int rfl T.n_int (by decide +kernel) (pa_cons (pe_callB c_abs rfl T.n_abs (by decide +kernel) (pa_cons (pv 2) pa_nil)) pa_nil)) (pe_op op_powW (pe_op op_pow pe_int pe_int) pe_int)))) (pa_cons pe_int (pa_cons (pv 1) (pa_cons pe_int pa_nil))))))))), ?_⟩
  have tk : ns.take (63 : Int).toNat = ns := List.take_of_length_le hl
  refine s_seq (s_asg (Ex.refl H) ev_i fun v1 B1 H1 n1 r1 => ?_)
  cases r1
  walk_at "u_n"
  have hs1 : SqL K B1 a (ns.map V.int) := Evl.ex_l n1.ext hs
  refine s_seq (q_for n1.sub (ev_slToS rfl hs1 ev_i (by decide)) (Items.lst _) (fun Ba Ha i σ' H' => ∃ (sd : Int) (w : Option V), σ' = [some (.ref a), some (.int sd), w] ∧ 0 ≤ sd ∧ sd < 2147483647 ∧ Ex Ba H' ∧ Ex Ha H') ?_ ?_ ?_ ?_)
  · intro Ba Ha na
    exact ⟨40009, _, rfl, by decide, by decide, na.sub, Ex.refl _⟩
  · rintro Ba Ha i σ' H' ⟨sd, w, rfl, h1, h2, h3, h4⟩
    exact h3
  · rintro Ba Ha i d v σ' H' na hd rd ⟨sd, w, rfl, h1, h2, h3, h4⟩
    rw [List.getElem?_map] at hd
    cases hq : (ns.take (63 : Int).toNat)[i]? with
    | none => rw [hq] at hd; cases hd
    | some m =>
      rw [hq] at hd
      cases hd
      cases rd
      show tAsg _ _ _ _ _
      refine s_asg (B := Ba) (d := .int ((sd * 62089911 + m % 2147483629 + 17) % 2147483647)) h3 (by walk_at "u_ev") fun v2 B2 H2 n2 r2 => ?_
      cases r2
      exact ⟨_, _, rfl, Int.emod_nonneg _ (by decide), Int.emod_lt_of_pos _ (by decide), (na.ext.trans (Ex.refl _) |> fun _ => h3.trans n2.heap), h4.trans n2.heap⟩
  · rintro Ba Ha σ' H' na ⟨sd, w, rfl, h1, h2, h3, h4⟩
    walk_at "u_n"
    have hsa : SqL K Ba a (ns.map V.int) := Evl.ex_l na.ext hs1
    refine s_ret (d := .lst [.lst ((ns.map fun n => (if n < 0 then -n else n) % ((10 ^ (60 : Int).toNat) ^ (10 : Int).toNat)).map .int), .int 0, .int sd, .int 0]) h3 ?_ (fun v Bz Hz nz rv => ?_)
    · refine ev_lst (ea_cons ?_ (ea_cons ev_i (ea_cons (ev_v rfl (.int _)) (ea_cons ev_i ea_nil)))) (by simp)
      have g := q_lc1 (K := K) (σ := ([some (.ref a), some (.int sd), w] : L2.St)) (B := Ba) (enc := Dt.int) (l := ns) (f := fun n => .int ((if n < 0 then -n else n) % ((10 ^ (60 : Int).toNat) ^ (10 : Int).toNat))) (vs := [2]) (j := 2) (ta := tSl (rSlL K) (tVar 0) tNoPart (tPart (tC (.int 63))))
        ((ev_slToS rfl hsa ev_i (by decide)).is (by rw [tk])) (Items.lst _) (by omega) (fun _ => rfl) (fun n v Bx hm hB rv => by
          cases rv
          exact ev_op (ev_cb (ea_cons (ev_cb (ea_cons (ev_v (n := 2) rfl (.int _)) ea_nil) rl_abs) ea_nil) rl_int) (ev_op (ev_op ev_i ev_i (rv_pow ⟨by decide, by decide, by decide⟩)) ev_i (rv_powW ⟨by decide, by decide +kernel⟩)) (rv_mod (by decide +kernel)))
      rw [List.map_map]
      exact g
    · obtain ⟨p, q, rfl, dk⟩ := dk_of rv (fun n hn => by
        obtain ⟨x, _, rfl⟩ := List.mem_map.mp hn
        exact Int.emod_nonneg _ (by decide +kernel)) (by rw [List.length_map]; exact hl) (Int.le_refl 0) h1 h2
      exact ret p q Hz (((n1.heap.trans na.heap).trans h4).trans nz.heap) ⟨_, _, _, _, dk Hz nz.sub⟩

theorem ok__law_take (T : Txt K mg fa fd) : FnG P w K mg base CX0 1 (fa 54) (fd 54) ["deck", "wide"] spTake := by
  refine fn_S T.d__law_take.F sc__law_take (fun vs H Q E h => by obtain ⟨_, _, _, rfl, _⟩ := h; rfl) (fun cdv Γ below s H vs Q E hg hr h => ?_)
  obtain ⟨p, q, m, rfl, h0, h1, ⟨ns, i, sd, c, dk⟩, ret⟩ := h
  have hu := hr.units
  refine ⟨_, (pss_cons (ps_while PassesOwn.never (PW.pt (pw_and (pt_cmpR op_lt (pe_ix (k_ix (K := K) rfl) (pv 0) pe_int (fun _ _ => rfl)) (pe_callB (k_len (K := K) rfl) rfl T.n_len (by decide +kernel) (pa_cons (pe_ix (k_ix (K := K) rfl) (pv 0) pe_int (fun _ _ => rfl)) pa_nil)) (nomark _)) (pw_and1 (pt_cmpR (k_eq (K := K) rfl hu) (pe_ix (k_ix (K := K) rfl) (pe_ix (k_ix (K := K) rfl) (pv 0) pe_int (fun _ _ => rfl)) (pe_ix (k_ix (K := K) rfl) (pv 0) pe_int (fun _ _ => rfl)) (fun _ _ => rfl)) pe_int (nomark _))))) (pss_one (ps_asg (pe_op op_addA (pe_ix (k_ix (K := K) rfl) (pv 0) pe_int (fun _ _ => rfl)) pe_int) (pg_sub (pv 0) pe_int set_list)))) (pss_cons (ps_if (pt_cmpR op_lt (pe_ix (k_ix (K := K) rfl) (pv 0) pe_int (fun _ _ => rfl)) (pe_callB (k_len (K := K) rfl) rfl T.n_len (by decide +kernel) (pa_cons (pe_ix (k_ix (K := K) rfl) (pv 0) pe_int (fun _ _ => rfl)) pa_nil)) (nomark _)) (pss_cons (ps_set (i := 2) sc__law_take.nd rfl (by first | exact Or.inl rfl | exact Or.inr rfl) (pe_ix (k_ix (K := K) rfl) (pe_ix (k_ix (K := K) rfl) (pv 0) pe_int (fun _ _ => rfl)) (pe_ix (k_ix (K := K) rfl) (pv 0) pe_int (fun _ _ => rfl)) (fun _ _ => rfl))) (pss_cons (ps_asg (pe_op op_fdivW (pv 2) (pv 1)) (pg_sub (pe_ix (k_ix (K := K) rfl) (pv 0) pe_int (fun _ _ => rfl)) (pe_ix (k_ix (K := K) rfl) (pv 0) pe_int (fun _ _ => rfl)) set_list)) (pss_one (ps_ret (pe_op op_mod (pe_callTy c_int rfl T.n_int (by decide +kernel) (pa_cons (pv 2) pa_nil)) (pv 1)))))) pss_nil) (pss_cons (ps_asg (pe_op op_addA (pe_ix (k_ix (K := K) rfl) (pv 0) pe_int (fun _ _ => rfl)) pe_int) (pg_sub (pv 0) pe_int set_list)) (pss_cons (ps_set (i := 3) sc__law_take.nd rfl (by first | exact Or.inl rfl | exact Or.inr rfl) (pe_op op_addA (pe_op op_addA (pe_op op_addA (pe_op op_pow (pe_ix (k_ix (K := K) rfl) (pv 0) pe_int (fun _ _ => rfl)) pe_int) (pe_op op_mul pe_int (pe_ix (k_ix (K := K) rfl) (pv 0) pe_int (fun _ _ => rfl)))) (pe_op op_mul pe_int (pe_ix (k_ix (K := K) rfl) (pv 0) pe_int (fun _ _ => rfl)))) pe_int)) (pss_cons (ps_asg (pe_op op_mod (pe_callTy c_int rfl T.n_int (by decide +kernel) (pa_cons (pv 3) pa_nil)) pe_int) (pg_sub (pv 0) pe_int set_list)) (pss_one (ps_ret (pe_op op_mod (pe_op op_fdiv (pe_callTy c_int rfl T.n_int (by decide +kernel) (pa_cons (pe_op op_addA (pe_op op_mul (pe_ix (k_ix (K := K) rfl) (pv 0) pe_int (fun _ _ => rfl)) (pe_ix (k_ix (K := K) rfl) (pv 0) pe_int (fun _ _ => rfl))) (pe_op op_fdiv (pe_ix (k_ix (K := K) rfl) (pv 0) pe_int (fun _ _ => rfl)) pe_int)) pa_nil)) pe_int) (pv 1))))))))), ?_⟩
  let B0 : Hp := fun _ => none
  have e0 : ∀ H', Ex B0 H' := fun H' a u h => nomatch h
  have cw : ∀ x : Int, CDivW x m := fun x => wide_div h0 (b := 900) (by omega) (by decide) (by decide)
  refine s_seq (show tWhile _ _ _ _ _ from ⟨fun k σ' H' => σ' = [some (.ref p), some (.int m), none, none] ∧ ∃ i', DkAt p q H' ns i' sd c ∧ But p q H H' ∧ k = ns.length - i'.toNat, ⟨_, rfl, i, dk, But.refl, rfl⟩, ?_⟩)
  rintro k σ' H' ⟨rfl, i', d, b, rfl⟩
  have rp := dkB_R (B := B0) (ns := ns) (i := i') (s := sd) (c := c) d.ne
  have sub := d.sub (e0 H')
  have i0 := d.i0
  refine (show EvC _ _ (dkB p q B0 ns i' sd c) (decide (i' < ((ns.map Dt.int).length : Nat)) && decide (ns.getD i'.toNat 0 = 0)) from ec_and (ec_t (ev_op (ev_op (ev_v rfl rp) ev_i (rv_ixL rfl)) (ev_cb (ea_cons (ev_op (ev_v rfl rp) ev_i (rv_ixL rfl)) ea_nil) rl_lenL) rv_lt)) (fun ht => ?_)) H' sub _ (fun H2 e2 => ?_)
  · have hi : i'.toNat < ns.length := by
      have := of_decide_eq_true ht
      rw [List.length_map] at this
      omega
    refine ec_t (ev_op (ev_op (ev_op (ev_v rfl rp) ev_i (rv_ixL rfl)) (ev_op (ev_v rfl rp) ev_i (rv_ixL rfl)) (rv_ixL (d := .int (ns.getD i'.toNat 0)) ?_)) ev_i (rv_inl rv_eqI))
    have e1 : i' = ((i'.toNat : Nat) : Int) := by omega
    rw [e1]
    refine atI_nat' ?_
    rw [List.getElem?_map, Int.toNat_natCast, List.getD_eq_getElem?_getD, List.getElem?_eq_getElem hi]
    rfl
  have d2 := d.ex e2
  have b2 : But p q H H2 := b.trans (But.of e2)
  split
  · rename_i hc
    rw [Bool.and_eq_true] at hc
    have hi : i'.toNat < ns.length := by
      have := of_decide_eq_true hc.1
      rw [List.length_map] at this
      omega
    refine ⟨fun σ' H' => σ' = [some (.ref p), some (.int m), none, none] ∧ DkAt p q H' ns (i' + 1) sd c ∧ But p q H H', fun σ' H' ⟨g1, g2, g3⟩ => ⟨_, ?_, g1, _, g2, g3, rfl⟩, ?_⟩
    · omega
    · refine s_setD (z := i' + 1) (k := 1) (j := 1) (d2.sub (e0 H2)) rfl (dkB_at d.ne) (ev_op (ev_op (ev_v rfl rp) ev_i (rv_ixL rfl)) ev_i (rv_inl rv_add)) ev_i rfl (fun H3 e3 => ?_)
      have d3 := d2.ex e3
      exact ⟨rfl, ⟨d3.ne, upd_same, (upd_ne (Ne.symm d3.ne)).trans d3.hq, d3.nn, d3.len, by omega, d3.s0, d3.s1⟩, (b2.trans (But.of e3)).trans But.updp⟩
  · walk_at "u_n"
    have rp := dkB_R (B := B0) (ns := ns) (i := i') (s := sd) (c := c) d.ne
    refine s_seq (s_if (b := decide (i' < ((ns.map Dt.int).length : Nat))) (d2.sub (e0 H2)) (ec_t (ev_op (ev_op (ev_v rfl rp) ev_i (rv_ixL rfl)) (ev_cb (ea_cons (ev_op (ev_v rfl rp) ev_i (rv_ixL rfl)) ea_nil) rl_lenL) rv_lt)) (fun hb H3 u3 => ?_) (fun hb H3 u3 => ?_))
    · have hi : i'.toNat < ns.length := by
        have := of_decide_eq_true hb
        rw [List.length_map] at this
        omega
      have ei : i' = ((i'.toNat : Nat) : Int) := by omega
      have hat : ns[i'.toNat]? = some ns[i'.toNat] := List.getElem?_eq_getElem hi
      have hAt := atI_nat' (xs := ns.map Dt.int) (m := i'.toNat) (v := .int ns[i'.toNat]) (by rw [List.getElem?_map, hat]; rfl)
      rw [← ei] at hAt
      have x0 : 0 ≤ ns[i'.toNat] := d.nn _ (List.getElem_mem _)
      have d3 := d2.ex u3.heap
      refine s_seq (s_asg (d := .int ns[i'.toNat]) u3.sub (ev_op (ev_op (ev_v rfl rp) ev_i (rv_ixL rfl)) (ev_op (ev_v rfl rp) ev_i (rv_ixL rfl)) (rv_ixL hAt)) fun v4 B4 H4 n4 r4 => ?_)
      cases r4
      walk_at "u_n"
      have d4 := d3.ex n4.heap
      refine s_seq (s_setDD (z := ns[i'.toNat] / m) (k := i') (j := i'.toNat) (d4.sub (e0 H4)) rfl (dkB_at d.ne) dkB_q (ev_op (ev_v rfl (.int _)) (ev_v rfl (.int _)) (rv_divW (cw _))) (ev_op (ev_v rfl rp) ev_i (rv_ixL rfl)) ?_ (fun H5 e5 => ?_))
      · rw [List.length_map]
        have := ixN_nat (n := ns.length) hi
        rw [← ei] at this
        exact this
      walk_at "u_n"
      have d5 := d4.ex e5
      have b5 : But p q H (upd H5 q (.lst ((ns.map V.int).set i'.toNat (.int (ns[i'.toNat] / m))))) := (((b2.trans (But.of u3.heap)).trans (But.of n4.heap)).trans (But.of e5)).trans But.updq
      refine s_ret (d := .int (ns[i'.toNat] % m)) (e0 _) (ev_op (ev_cb (ea_cons (ev_v rfl (.int _)) ea_nil) rl_int) (ev_v rfl (.int _)) (rv_mod h0)) (fun v6 B6 H6 n6 r6 => ?_)
      cases r6
      refine ret _ H6 (Int.emod_nonneg _ (by omega)) (Int.emod_lt_of_pos _ h0) (b5.trans (But.of n6.heap)) ⟨ns.set i'.toNat (ns[i'.toNat] / m), i', sd, c, DkAt.ex n6.heap ⟨d5.ne, (upd_ne d5.ne).trans d5.hp, ?_, fun y hy => ?_, by rw [List.length_set]; exact d5.len, d5.i0, d5.s0, d5.s1⟩⟩
      · rw [upd_same, List.map_set]
      · rcases List.mem_or_eq_of_mem_set hy with z | z
        · exact d.nn _ z
        · rw [z]; exact Int.ediv_nonneg x0 (by omega)
    · walk_at "u_n"
      have d3 := d2.ex u3.heap
      refine s_seq (s_setD (z := c + 1) (k := 3) (j := 3) (d3.sub (e0 H3)) rfl (dkB_at d.ne) (ev_op (ev_op (ev_v rfl rp) ev_i (rv_ixL rfl)) ev_i (rv_inl rv_add)) ev_i rfl (fun H4 e4 => ?_))
      walk_at "u_n"
      have d4 : DkAt p q (upd H4 p (.lst [.ref q, .int i', .int sd, .int (c + 1)])) ns i' sd (c + 1) := ⟨d3.ne, upd_same, (upd_ne (Ne.symm d3.ne)).trans (d3.ex e4).hq, d3.nn, d3.len, d3.i0, d3.s0, d3.s1⟩
      have b4 : But p q H (upd H4 p (.lst [.ref q, .int i', .int sd, .int (c + 1)])) := ((b2.trans (But.of u3.heap)).trans (But.of e4)).trans But.updp
      have rp4 := dkB_R (B := B0) (ns := ns) (i := i') (s := sd) (c := c + 1) d.ne
      have s0 := d.s0
      have s1 := d.s1
      obtain ⟨mx, hmx⟩ : ∃ mx : Int, mx = sd ^ (3 : Int).toNat + 69997 * sd + 1009 * (c + 1) + 5 := ⟨_, rfl⟩
      refine s_seq (s_asg (d := .int mx) (d4.sub (e0 _)) (EvR.is (d := .int (sd ^ (3 : Int).toNat + 69997 * sd + 1009 * (c + 1) + 5)) (ev_op (ev_op (ev_op (ev_op (ev_op (ev_v rfl rp4) ev_i (rv_ixL rfl)) ev_i (rv_pow ⟨by decide, by decide, by omega⟩)) (ev_op ev_i (ev_op (ev_v rfl rp4) ev_i (rv_ixL rfl)) (rv_mul (.inl ⟨by decide, by decide⟩))) (rv_inl rv_add)) (ev_op ev_i (ev_op (ev_v rfl rp4) ev_i (rv_ixL rfl)) (rv_mul (.inl ⟨by decide, by decide⟩))) (rv_inl rv_add)) ev_i (rv_inl rv_add)) (by rw [hmx])) fun v5 B5 H5 n5 r5 => ?_)
      cases r5
      walk_at "u_n"
      have d5 := d4.ex n5.heap
      refine s_seq (s_setD (z := mx % 2147483647) (k := 2) (j := 2) (d5.sub (e0 H5)) rfl (dkB_at d.ne) (ev_op (ev_cb (ea_cons (ev_v rfl (.int _)) ea_nil) rl_int) ev_i (rv_mod (by decide))) ev_i rfl (fun H6 e6 => ?_))
      walk_at "u_n"
      obtain ⟨z, hz⟩ : ∃ z : Int, z = mx % 2147483647 := ⟨_, rfl⟩
      have z0 : 0 ≤ z := by rw [hz]; exact Int.emod_nonneg _ (by decide)
      have z1 : z < 2147483647 := by rw [hz]; exact Int.emod_lt_of_pos _ (by decide)
      rw [← hz]
      have d6 : DkAt p q (upd H6 p (.lst [.ref q, .int i', .int z, .int (c + 1)])) ns i' z (c + 1) := ⟨d3.ne, upd_same, (upd_ne (Ne.symm d3.ne)).trans (d5.ex e6).hq, d3.nn, d3.len, d3.i0, z0, z1⟩
      have b6 : But p q H (upd H6 p (.lst [.ref q, .int i', .int z, .int (c + 1)])) := ((b4.trans (But.of n5.heap)).trans (But.of e6)).trans But.updp
      have rp6 := dkB_R (B := B0) (ns := ns) (i := i') (s := z) (c := c + 1) d.ne
      refine s_ret (d := .int ((z * z + z / 7919) / 31 % m)) (d6.sub (e0 _)) (ev_op (ev_op (ev_cb (ea_cons (ev_op (ev_op (ev_op (ev_v rfl rp6) ev_i (rv_ixL rfl)) (ev_op (ev_v rfl rp6) ev_i (rv_ixL rfl)) (rv_mul (.inl ⟨by omega, by omega⟩))) (ev_op (ev_op (ev_v rfl rp6) ev_i (rv_ixL rfl)) ev_i (rv_div ⟨by decide, by decide⟩)) (rv_inl rv_add)) ea_nil) rl_int) ev_i (rv_div ⟨by decide, by decide⟩)) (ev_v rfl (.int _)) (rv_mod h0)) (fun v7 B7 H7 n7 r7 => ?_)
      cases r7
      exact ret _ H7 (Int.emod_nonneg _ (by omega)) (Int.emod_lt_of_pos _ h0) (b6.trans (But.of n7.heap)) ⟨_, _, _, _, d6.ex n7.heap⟩

def pre__law_corner (as : List Dt) : Prop := ∃ m : Int, as = [.int m] ∧ 1 ≤ m ∧ m ≤ 3
def g__law_corner (as : List Dt) (d : Dt) : Prop := ∃ (m : Int) (c : Cor), as = [.int m] ∧ CorL m c ∧ d = eCor c
theorem ok__law_corner (T : Txt K mg fa fd) : FnG P w K mg base CX0 2 (fa 55) (fd 55) ["deck", "many"] (spK pre__law_corner g__law_corner) := by
  refine fn_K T.d__law_corner.F sc__law_corner (fun ds h => by obtain ⟨_, rfl, _⟩ := h; rfl) (fun cdv Γ below s p q B H ws as Q E hg hr e o k ra hp ret => ?_)
  obtain ⟨m, rfl, m1, m2⟩ := hp
  rcases ra with _ | ⟨r1, _ | _⟩
  cases r1
  have hu := hr.units
  refine ⟨_, (pss_one (ps_ret (pe_tup (pa_cons (pe_go (ok__law_take T) hg (hr.mono (by decide)) rfl T.d__law_take.at_ T.d__law_take.F.kp (bn__law_take T) pass0 (pa_cons (pv 0) (pa_cons (pv 1) pa_nil))) (pa_cons (pe_ix (k_ix (K := K) rfl) (pe_lst (pa_cons (pe_op op_sub (pe_go (ok__law_take T) hg (hr.mono (by decide)) rfl T.d__law_take.at_ T.d__law_take.F.kp (bn__law_take T) pass0 (pa_cons (pv 0) (pa_cons pe_int pa_nil))) pe_int) (pa_cons pe_int pa_nil))) (pe_op op_fdiv (pe_go (ok__law_take T) hg (hr.mono (by decide)) rfl T.d__law_take.at_ T.d__law_take.F.kp (bn__law_take T) pass0 (pa_cons (pv 0) (pa_cons pe_int pa_nil))) pe_int) (fun _ _ => rfl)) pa_nil))))), ?_⟩
  refine s_retG (Z := Zd p q) (P := fun d _ => ∃ c : Cor, CorL m c ∧ d = eCor c) e o k (eg_tup (PL := fun ds _ => ∃ x y : Int, ds = [.int x, .int y] ∧ 0 ≤ x ∧ x < m ∧ -3 ≤ y ∧ y ≤ 3)
    ((ega_cons (P := fun d _ => ∃ r : Int, d = .int r ∧ 0 ≤ r ∧ r < m) (PR := fun _ _ es _ => ∃ y : Int, es = [.int y] ∧ -3 ≤ y ∧ y ≤ 3) ((eg_take dkIn_d rfl (ev_v rfl (.int _)) (by omega) (by omega)).imp fun d j h => h.1) fun d j _ =>
      ((ega_cons (P := fun d _ => ∃ y : Int, d = .int y ∧ -3 ≤ y ∧ y ≤ 3) (PR := fun _ _ es _ => es = []) (eg_op (P1 := fun d _ => ∃ y : Int, d = .lst [.int y, .int 0] ∧ -3 ≤ y ∧ y ≤ 3) ?_ fun d j hd => ?_) fun _ _ _ => ega_nil.imp fun _ _ h => h.1).imp ?_)).imp ?_) ?_) (fun v B1 H1 d j hd n o1 k1 rv => ?_)
  · refine eg_lst (PL := fun ds _ => ∃ y : Int, ds = [.int y, .int 0] ∧ -3 ≤ y ∧ y ≤ 3) ((ega_cons (P := fun d _ => ∃ y : Int, d = .int y ∧ -3 ≤ y ∧ y ≤ 3) (PR := fun _ _ es _ => es = [.int 0]) (eg_op (P1 := fun d _ => ∃ r : Int, d = .int r ∧ 0 ≤ r ∧ r < 7) ((eg_take dkIn_d rfl ev_i (by decide) (by decide)).imp fun d j h => h.1) fun d j hd => ?_) fun _ _ _ => (ega_cons (P := fun d _ => d = .int 0) (PR := fun _ _ es _ => es = []) (eg_R ev_i rfl) fun _ _ _ => ega_nil.imp fun _ _ h => h.1).imp ?_).imp ?_) ?_
    · obtain ⟨r, rfl, r0, r1⟩ := hd
      exact eg_R ev_i ⟨.int (r - 3), ⟨r - 3, rfl, by omega, by omega⟩, rv_sub⟩
    · rintro ds j ⟨d, j1, es, rfl, rfl, rfl⟩
      rfl
    · rintro ds j ⟨d, j1, es, rfl, ⟨y, rfl, h1, h2⟩, rfl⟩
      exact ⟨y, rfl, h1, h2⟩
    · rintro ds j ⟨y, rfl, h1, h2⟩
      exact ⟨by simp, y, rfl, h1, h2⟩
  · obtain ⟨y, rfl, y1, y2⟩ := hd
    refine eg_op (P1 := fun d _ => ∃ r : Int, d = .int r ∧ 0 ≤ r ∧ r < 4) ((eg_take dkIn_d rfl ev_i (by decide) (by decide)).imp fun d j h => h.1) fun d j hd => ?_
    obtain ⟨r, rfl, r0, r1⟩ := hd
    by_cases h3 : r = 3
    · subst h3
      exact eg_R ev_i ⟨.int 1, ⟨.int 0, ⟨0, rfl, by decide, by decide⟩, rv_ixL rfl⟩, (rv_div (i := 3) (j := 3) ⟨by decide, by decide⟩)⟩
    · have e0 : r / 3 = 0 := by omega
      refine eg_R ev_i ⟨.int (r / 3), ⟨.int y, ⟨y, rfl, y1, y2⟩, ?_⟩, rv_div ⟨by decide, by decide⟩⟩
      rw [e0]
      exact rv_ixL rfl
  · rintro ds j ⟨d, j1, es, rfl, ⟨y, rfl, h1, h2⟩, rfl⟩
    exact ⟨y, rfl, h1, h2⟩
  · rintro ds j ⟨d, j1, es, rfl, ⟨x, rfl, h1, h2⟩, y, rfl, h3, h4⟩
    exact ⟨x, y, rfl, h1, h2, h3, h4⟩
  · rintro ds j ⟨x, y, rfl, h1, h2, h3, h4⟩
    exact ⟨by simp, (x, y), ⟨h1, h2, h3, h4⟩, rfl⟩
  · obtain ⟨c, hc, rfl⟩ := hd
    exact ret v B1 H1 _ ⟨m, c, rfl, hc, rfl⟩ n k1 rv

def pre__law_box (as : List Dt) : Prop := ∃ a b : Int, as = [eFr a b] ∧ FrOk a b
def g__law_box (as : List Dt) (d : Dt) : Prop := ∃ (a b : Int) (x : Bx), as = [eFr a b] ∧ BxL a b x ∧ d = eBx x
theorem snoc_get {α : Type} {Q : Nat → α → Prop} {ds : List α} {d : α} {a : Nat} (hl : ds.length = a) (h : ∀ i x, ds[i]? = some x → Q i x) (hd : Q a d) : ∀ i x, (ds ++ [d])[i]? = some x → Q i x := fun i x hi => by
  by_cases h1 : i < ds.length
  · rw [List.getElem?_append_left h1] at hi
    exact h i x hi
  · rw [List.getElem?_append_right (by omega)] at hi
    have h2 : i - ds.length = 0 := by
      have := (List.getElem?_eq_some_iff.mp hi).1
      simp at this
      omega
    rw [h2] at hi
    cases hi
    have : i = a := by omega
    rw [this]
    exact hd
theorem ok__law_box (T : Txt K mg fa fd) : FnG P w K mg base CX0 3 (fa 56) (fd 56) ["deck", "home"] (spK pre__law_box g__law_box) := by
  refine fn_K T.d__law_box.F sc__law_box (fun ds h => by obtain ⟨_, _, rfl, _⟩ := h; rfl) (fun cdv Γ below s p q B H ws as Q E hg hr e o k ra hp ret => ?_)
  obtain ⟨a, b, rfl, f1, f2, f3, f4⟩ := hp
  rcases ra with _ | ⟨r1, _ | _⟩
  have hu := hr.units
  refine ⟨_, (pss_one (ps_ret (pe_callTy (k_tuple (K := K) rfl) rfl T.n_tuple (by decide +kernel) (pa_cons (pe_lc (own := [("at", 2)]) (g := (gName 2)) (tt := tYes) rfl sc__law_box.nd (pi_range1 rfl T.n_range (pa_cons pe_int pa_nil)) (blkOk_by (N := ["deck", "home", "at"]) (sc := defScope s__law_box) (by decide +kernel)) (fun _ _ _ _ _ => (pg_name (i := 2) sc__law_box.nd rfl (by first | exact Or.inl rfl | exact Or.inr rfl))) (fun _ _ _ _ _ => pts_nil) (fun _ _ _ _ _ => (pe_go (ok__law_corner T) hg (hr.mono (by decide)) rfl T.d__law_corner.at_ T.d__law_corner.F.kp (bn__law_corner T) pass0 (pa_cons (pv 0) (pa_cons (pe_ix (k_ix (K := K) rfl) (pv 1) (pe_op op_fdiv (pv 2) pe_int) (fun _ _ => rfl)) pa_nil))))) pa_nil)))), ?_⟩
  refine s_retG (Z := Zd p q) (P := fun d _ => ∃ x : Bx, BxL a b x ∧ d = eBx x) e o k (eg_cb (PL := fun es _ => ∃ x : Bx, BxL a b x ∧ es = [.lst [eCor x.l, eCor x.r, eCor x.t, eCor x.b]]) ((ega_cons (P := fun d _ => ∃ x : Bx, BxL a b x ∧ d = .lst [eCor x.l, eCor x.r, eCor x.t, eCor x.b]) (PR := fun _ _ es _ => es = [])
    (eg_lcR (m := 4) (fun n ds _ => ds.length = n ∧ ∀ i d, ds[i]? = some d → ∃ c : Cor, CorL (if i < 2 then a else b) c ∧ d = eCor c) (ea_cons ev_i ea_nil) (by decide) (fun _ => rfl) ⟨rfl, fun i d h => by simp at h⟩ (fun i ds j hi hI => ?_) (fun _ _ _ h => h.1) (fun ds j hI => ?_)) fun _ _ _ => ega_nil.imp fun _ _ h => h.1).imp ?_) fun ds j hd => ?_) (fun v B1 H1 d j hd n o1 k1 rv => ?_)
  · refine (eg_callK (as := [.int (if i < 2 then a else b)]) dkIn_d rfl (ea_cons (ev_op (ev_v rfl r1) (ev_op (ev_v rfl (.int _)) ev_i (rv_div ⟨by decide, by decide⟩)) (rv_ixT ?_)) ea_nil) ⟨_, rfl, by split <;> omega, by split <;> omega⟩).imp fun d j' h => ?_
    · by_cases h2 : i < 2
      · rw [if_pos h2]
        have : ((i : Nat) : Int) / 2 = 0 := by omega
        rw [this]
        rfl
      · rw [if_neg h2]
        have : ((i : Nat) : Int) / 2 = 1 := by omega
        rw [this]
        rfl
    · obtain ⟨⟨m, c, hm, hc, rfl⟩, _⟩ := h
      cases hm
      exact ⟨by rw [List.length_append, hI.1]; rfl, snoc_get (Q := fun i d => ∃ c : Cor, CorL (if i < 2 then a else b) c ∧ d = eCor c) hI.1 hI.2 ⟨c, hc, rfl⟩⟩
  · obtain ⟨hl, hI⟩ := hI
    match ds, hl with
    | [d0, d1, d2, d3], _ =>
      obtain ⟨c0, h0, rfl⟩ := hI 0 d0 rfl
      obtain ⟨c1, h1, rfl⟩ := hI 1 d1 rfl
      obtain ⟨c2, h2, rfl⟩ := hI 2 d2 rfl
      obtain ⟨c3, h3, rfl⟩ := hI 3 d3 rfl
      exact ⟨⟨c0, c1, c2, c3⟩, ⟨h0, h1, h2, h3⟩, rfl⟩
  · rintro ds j ⟨d, j1, es, rfl, ⟨x, hx, rfl⟩, rfl⟩
    exact ⟨x, hx, rfl⟩
  · obtain ⟨x, hx, rfl⟩ := hd
    exact ⟨_, ⟨x, hx, rfl⟩, rl_tuple⟩
  · obtain ⟨x, hx, rfl⟩ := hd
    exact ret v B1 H1 _ ⟨a, b, x, rfl, hx, rfl⟩ n k1 rv

theorem rv_xy {i : Int} (h0 : 0 ≤ i) (h1 : i < 2) : RV (rIx K) (.str "xy") (.int i) (.str (axS (decide (i = 0)))) := fun B H1 v w e r1 r2 Q q => by
  cases r1; cases r2
  have : i = 0 ∨ i = 1 := by omega
  have z : (("xy" : Str)).length ≤ sizeLine := sz_of (by decide +kernel)
  have ex : (⟨#[120]⟩ : Str) = axS (decide ((0 : Int) = 0)) := by decide +kernel
  have ey : (⟨#[121]⟩ : Str) = axS (decide ((1 : Int) = 0)) := by decide +kernel
  rcases this with rfl | rfl
  · exact .inr (.inr ⟨"xy", 0, 120, rfl, rfl, z, by decide +kernel, q _ B H1 (New.refl e) (ex ▸ .str _)⟩)
  · exact .inr (.inr ⟨"xy", 1, 121, rfl, rfl, z, by decide +kernel, q _ B H1 (New.refl e) (ey ▸ .str _)⟩)
theorem st__law_statement (T : Txt K mg fa fd) {l lv : Nat} (hk : 3 ≤ lv) (rec__law_program : FnG P w K mg base CX0 lv (fa 58) (fd 58) ["deck", "home", "purse", "levels"] (spProg l)) : FnG P w K mg base CX0 (lv + 1) (fa 57) (fd 57) ["deck", "home", "purse", "levels"] (spStat (l + 1)) := by
  refine fn_S T.d__law_statement.F sc__law_statement (fun vs H Q E h => by obtain ⟨_, _, _, _, _, _, _, _, rfl, _⟩ := h; rfl) (fun cdv Γ below s H vs Q E hg hr h => ?_)
  obtain ⟨p, q, r, w, B, k, a, b, rfl, e, o, st, rw', f, l1, k0, k1, ret⟩ := h
  have hu := hr.units
  refine ⟨_, (pss_cons (ps_set (i := 4) sc__law_statement.nd rfl (by first | exact Or.inl rfl | exact Or.inr rfl) (pe_go (ok__law_take T) hg (hr.mono (by omega)) rfl T.d__law_take.at_ T.d__law_take.F.kp (bn__law_take T) pass0 (pa_cons (pv 0) (pa_cons pe_int pa_nil)))) (pss_cons (ps_if (PW.pt (pw_or (pt_cmpR op_lt (pv 3) pe_int (nomark _)) (pw_or1 (pt_cmpR op_lt (pv 4) pe_int (nomark _))))) (pss_one (ps_ret (pe_tup (pa_cons pe_str (pa_cons (pe_go (ok__law_box T) hg (hr.mono (by omega)) rfl T.d__law_box.at_ T.d__law_box.F.kp (bn__law_box T) pass0 (pa_cons (pv 0) (pa_cons (pv 1) pa_nil))) (pa_cons (pe_go (ok__law_take T) hg (hr.mono (by omega)) rfl T.d__law_take.at_ T.d__law_take.F.kp (bn__law_take T) pass0 (pa_cons (pv 0) (pa_cons pe_int pa_nil))) pa_nil)))))) pss_nil) (pss_cons (ps_if (pt_cmpR (k_eq (K := K) rfl hu) (pv 4) pe_int (nomark _)) (pss_cons (ps_set (i := 5) sc__law_statement.nd rfl (by first | exact Or.inl rfl | exact Or.inr rfl) (pe_go (ok__law_box T) hg (hr.mono (by omega)) rfl T.d__law_box.at_ T.d__law_box.F.kp (bn__law_box T) pass0 (pa_cons (pv 0) (pa_cons (pv 1) pa_nil)))) (pss_one (ps_ret (pe_tup (pa_cons pe_str (pa_cons (pv 5) (pa_cons (pe_go rec__law_program hg (hr.mono (by omega)) rfl T.d__law_program.at_ T.d__law_program.F.kp (bn__law_program T) pass0 (pa_cons (pv 0) (pa_cons (pv 1) (pa_cons (pv 2) (pa_cons (pe_op op_sub (pv 3) pe_int) pa_nil))))) pa_nil))))))) pss_nil) (pss_cons (ps_if (pt_cmpR (k_eq (K := K) rfl hu) (pv 4) pe_int (nomark _)) (pss_cons (ps_setLc (i := 6) (own := [("turn", 7)]) (g := (gName 7)) (tt := tYes) rfl sc__law_statement.nd rfl rfl (sw_true rfl rfl rfl (by decide +kernel)) (pi_range1 rfl T.n_range (pa_cons pe_int pa_nil)) (blkOk_by (N := ["deck", "home", "purse", "levels", "way", "box_here", "amounts", "turn", "axis", "corners", "first"]) (sc := defScope s__law_statement) (by decide +kernel)) (fun _ _ _ _ _ => (pg_name (i := 7) sc__law_statement.nd rfl (by first | exact Or.inl rfl | exact Or.inr rfl))) (fun _ _ _ _ _ => pts_nil) (fun _ _ _ _ _ => (pe_op op_sub (pe_go (ok__law_take T) hg (hr.mono (by omega)) rfl T.d__law_take.at_ T.d__law_take.F.kp (bn__law_take T) pass0 (pa_cons (pv 0) (pa_cons pe_int pa_nil))) pe_int))) (pss_one (ps_ret (pe_tup (pa_cons pe_str (pa_cons (pe_ix (k_ix (K := K) rfl) (pv 6) pe_int (fun _ _ => rfl)) (pa_cons (pe_ix (k_ix (K := K) rfl) (pv 6) pe_int (fun _ _ => rfl)) (pa_cons (pe_go rec__law_program hg (hr.mono (by omega)) rfl T.d__law_program.at_ T.d__law_program.F.kp (bn__law_program T) pass0 (pa_cons (pv 0) (pa_cons (pv 1) (pa_cons (pv 2) (pa_cons (pe_op op_sub (pv 3) pe_int) pa_nil))))) pa_nil)))))))) pss_nil) (pss_cons (ps_set (i := 8) sc__law_statement.nd rfl (by first | exact Or.inl rfl | exact Or.inr rfl) (pe_go (ok__law_take T) hg (hr.mono (by omega)) rfl T.d__law_take.at_ T.d__law_take.F.kp (bn__law_take T) pass0 (pa_cons (pv 0) (pa_cons pe_int pa_nil)))) (pss_cons (ps_setLc (i := 9) (own := [("turn", 7)]) (g := (gName 7)) (tt := tYes) rfl sc__law_statement.nd rfl rfl (sw_true rfl rfl rfl (by decide +kernel)) (pi_range1 rfl T.n_range (pa_cons pe_int pa_nil)) (blkOk_by (N := ["deck", "home", "purse", "levels", "way", "box_here", "amounts", "turn", "axis", "corners", "first"]) (sc := defScope s__law_statement) (by decide +kernel)) (fun _ _ _ _ _ => (pg_name (i := 7) sc__law_statement.nd rfl (by first | exact Or.inl rfl | exact Or.inr rfl))) (fun _ _ _ _ _ => pts_nil) (fun _ _ _ _ _ => (pe_go (ok__law_corner T) hg (hr.mono (by omega)) rfl T.d__law_corner.at_ T.d__law_corner.F.kp (bn__law_corner T) pass0 (pa_cons (pv 0) (pa_cons (pe_ix (k_ix (K := K) rfl) (pv 1) (pv 8) (fun _ _ => rfl)) pa_nil))))) (pss_cons (ps_set (i := 10) sc__law_statement.nd rfl (by first | exact Or.inl rfl | exact Or.inr rfl) (pe_go rec__law_program hg (hr.mono (by omega)) rfl T.d__law_program.at_ T.d__law_program.F.kp (bn__law_program T) pass0 (pa_cons (pv 0) (pa_cons (pv 1) (pa_cons (pv 2) (pa_cons (pe_op op_sub (pv 3) pe_int) pa_nil)))))) (pss_one (ps_ret (pe_tup (pa_cons pe_str (pa_cons (pe_ix (k_ix (K := K) rfl) pe_str (pv 8) (fun _ _ => rfl)) (pa_cons (pe_ix (k_ix (K := K) rfl) (pv 9) pe_int (fun _ _ => rfl)) (pa_cons (pe_ix (k_ix (K := K) rfl) (pv 9) pe_int (fun _ _ => rfl)) (pa_cons (pv 10) (pa_cons (pe_go rec__law_program hg (hr.mono (by omega)) rfl T.d__law_program.at_ T.d__law_program.F.kp (bn__law_program T) pass0 (pa_cons (pv 0) (pa_cons (pv 1) (pa_cons (pv 2) (pa_cons (pe_op op_sub (pv 3) pe_int) pa_nil))))) pa_nil)))))))))))))))), ?_⟩
  refine s_seq (s_asgG (Z := Zu p q r) (P := fun d j => ∃ m : Int, 0 ≤ m ∧ m < 6 ∧ d = .int m ∧ j = k) e o st ((eg_take dkIn_u rfl ev_i (by decide) (by decide)).imp ?_) fun v B1 H1 d j hd n o1 s1 rv => ?_)
  · rintro d j ⟨⟨m, rfl, m0, m1⟩, rfl⟩; exact ⟨m, m0, m1, rfl, rfl⟩
  walk_at "u_n"
  obtain ⟨m, m0, m1, rfl, rfl⟩ := hd
  cases rv
  have rw1 := rw'.mono n.ext
  refine s_seq (s_if (b := decide (((l + 1 : Nat) : Int) < 2) || decide (m < 3)) n.sub (ec_or (ec_t (ev_op (ev_v rfl (.int _)) ev_i rv_lt)) fun _ => ec_t (ev_op (ev_v rfl (.int _)) ev_i rv_lt)) (fun hb H2 u2 => ?_) fun hb H2 u2 => ?_)
  · have N2 := NewG.trans s1 n (u2.new.g (Z := Zu p q r))
    have s2 := (Zu p q r).up j H1 H2 s1 u2.heap
    refine s_retG (Z := Zu p q r) (P := fun d i => ∃ bx c, BxL a b bx ∧ 0 ≤ c ∧ c ≤ 9 ∧ d = eSt (.fill bx c) ∧ i = j) u2.sub o1 s2 (eg_tup (PL := fun ds i => ∃ bx c, BxL a b bx ∧ 0 ≤ c ∧ c ≤ 9 ∧ ds = [.str "fill", eBx bx, .int c] ∧ i = j)
      ((ega_cons (P := fun d i => d = .str "fill" ∧ i = j) (PR := fun _ _ es i => ∃ bx c, BxL a b bx ∧ 0 ≤ c ∧ c ≤ 9 ∧ es = [eBx bx, .int c] ∧ i = j) (eg_R ev_s ⟨rfl, rfl⟩) fun d i hd =>
        (ega_cons (P := fun d i => ∃ bx, BxL a b bx ∧ d = eBx bx ∧ i = j) (PR := fun _ _ es i => ∃ c, 0 ≤ c ∧ c ≤ 9 ∧ es = [.int c] ∧ i = j) ((eg_callK (as := [eFr a b]) dkIn_u rfl (ea_cons (ev_v rfl rw1) ea_nil) ⟨a, b, rfl, f⟩).imp ?_) fun d i hd =>
          (ega_cons (P := fun d i => ∃ c, 0 ≤ c ∧ c ≤ 9 ∧ d = .int c ∧ i = j) (PR := fun _ _ es i => es = [] ∧ i = j) ((eg_take dkIn_u rfl ev_i (by decide) (by decide)).imp ?_) fun d i hd => ega_nil.imp ?_).imp ?_).imp ?_).imp ?_) ?_) fun v B3 H3 d i hd n3 o3 s3 rv => ?_
    · rintro d2 i2 ⟨⟨a', b', bx, hx, hbx, rfl⟩, rfl⟩
      cases hx
      exact ⟨bx, hbx, rfl, hd.2⟩
    · rintro d2 i2 ⟨⟨c, rfl, c0, c1⟩, rfl⟩
      obtain ⟨_, _, _, h⟩ := hd
      exact ⟨c, c0, by omega, rfl, h⟩
    · rintro ds i2 ⟨rfl, rfl⟩
      obtain ⟨_, _, _, _, h⟩ := hd
      exact ⟨rfl, h⟩
    · rintro ds i2 ⟨d, j1, es, rfl, ⟨c, c0, c1, rfl, rfl⟩, rfl, rfl⟩
      exact ⟨c, c0, c1, rfl, rfl⟩
    · rintro ds i2 ⟨d, j1, es, rfl, ⟨bx, hbx, rfl, rfl⟩, c, c0, c1, rfl, rfl⟩
      exact ⟨bx, c, hbx, c0, c1, rfl, rfl⟩
    · rintro ds i2 ⟨d, j1, es, rfl, ⟨rfl, rfl⟩, bx, c, hbx, c0, c1, rfl, rfl⟩
      exact ⟨bx, c, hbx, c0, c1, rfl, rfl⟩
    · rintro ds i2 ⟨bx, c, hbx, c0, c1, rfl, rfl⟩
      exact ⟨by simp, bx, c, hbx, c0, c1, by rw [eSt], rfl⟩
    · obtain ⟨bx, c, hbx, c0, c1, rfl, rfl⟩ := hd
      exact ret v B3 H3 (.fill bx c) i ⟨hbx, c0, c1⟩ (by rw [szS]; omega) k0 (NewG.trans s2 N2 n3) s3 rv
  walk_at "u_n"
  have hl1 : 1 ≤ l ∧ 3 ≤ m := by
    have h1 : ¬ (((l + 1 : Nat) : Int) < 2) := fun z => by rw [decide_eq_true z] at hb; cases hb
    have h2 : ¬ (m < 3) := fun z => by rw [decide_eq_true z, Bool.or_true] at hb; cases hb
    omega
  have N2 := NewG.trans s1 n (u2.new.g (Z := Zu p q r))
  have s2 := (Zu p q r).up j H1 H2 s1 u2.heap
  have lev : ∀ {σ : L2.St} {B : Hp}, σ[3]? = some (some (.int ((l + 1 : Nat) : Int))) → EvR (tOp (rI0 fun i j => .int (i - j)) (tVar 3) (tC (.int 1))) σ B (.int (l : Nat)) := fun h => (ev_op (ev_v h (.int _)) ev_i rv_sub).is (by congr 1; omega)
  refine s_seq (s_if (b := decide (m = 3)) u2.sub (ec_t (ev_op (ev_v rfl (.int _)) ev_i (rv_inl rv_eqI))) (fun hb3 H3 u3 => ?_) fun hb3 H3 u3 => ?_)
  · have N3 := NewG.trans s2 N2 (u3.new.g (Z := Zu p q r))
    have s3 := (Zu p q r).up j H2 H3 s2 u3.heap
    refine s_seq (s_asgG (Z := Zu p q r) (P := fun d i => ∃ bx, BxL a b bx ∧ d = eBx bx ∧ i = j) u3.sub o1 s3 ((eg_callK (as := [eFr a b]) dkIn_u rfl (ea_cons (ev_v rfl rw1) ea_nil) ⟨a, b, rfl, f⟩).imp ?_) fun v B4 H4 d i hd n4 o4 s4 rv => ?_)
    · rintro d2 i2 ⟨⟨a', b', bx, hx, hbx, rfl⟩, rfl⟩
      cases hx
      exact ⟨bx, hbx, rfl, rfl⟩
    walk_at "u_n"
    obtain ⟨bx, hbx, rfl, rfl⟩ := hd
    have N4 := NewG.trans s3 N3 n4
    refine s_retG (Z := Zu p q r) (P := fun d i2 => ∃ ss, okPL a b l ss ∧ (szP ss : Int) + i2 = i ∧ 0 ≤ i2 ∧ d = eSt (.clip bx ss)) n4.sub o4 s4 (eg_tup (PL := fun ds i2 => ∃ ss, okPL a b l ss ∧ (szP ss : Int) + i2 = i ∧ 0 ≤ i2 ∧ ds = [.str "clip", eBx bx, .tup (ePg ss)])
      ((ega_cons (P := fun d i2 => d = .str "clip" ∧ i2 = i) (PR := fun _ _ es i2 => ∃ ss, okPL a b l ss ∧ (szP ss : Int) + i2 = i ∧ 0 ≤ i2 ∧ es = [eBx bx, .tup (ePg ss)]) (eg_R ev_s ⟨rfl, rfl⟩) fun d i2 hd => by
        obtain ⟨_, rfl⟩ := hd
        exact (ega_cons (P := fun d i3 => d = eBx bx ∧ i3 = i2) (PR := fun _ _ es i3 => ∃ ss, okPL a b l ss ∧ (szP ss : Int) + i3 = i2 ∧ 0 ≤ i3 ∧ es = [.tup (ePg ss)]) (eg_R (ev_v rfl rv) ⟨rfl, rfl⟩) fun d i3 hd => by
          obtain ⟨_, rfl⟩ := hd
          exact (ega_cons (PR := fun _ j1 es i4 => es = [] ∧ i4 = j1) (eg_prog (lv := l) rfl rfl (ev_v rfl (rw1.mono n4.ext)) (lev rfl) f hl1.1 k0 k1) fun d i4 hd => ega_nil).imp (by
            rintro ds i4 ⟨d, j1, es, rfl, ⟨ss, h1, h2, h3, rfl⟩, rfl, rfl⟩
            exact ⟨ss, h1, h2, h3, rfl⟩)).imp (by
          rintro ds i4 ⟨d, j1, es, rfl, ⟨rfl, rfl⟩, ss, h1, h2, h3, rfl⟩
          exact ⟨ss, h1, h2, h3, rfl⟩)).imp (by
        rintro ds i4 ⟨d, j1, es, rfl, ⟨rfl, rfl⟩, ss, h1, h2, h3, rfl⟩
        exact ⟨ss, h1, h2, h3, rfl⟩)) (by
      rintro ds i4 ⟨ss, h1, h2, h3, rfl⟩
      exact ⟨by simp, ss, h1, h2, h3, by rw [eSt]⟩)) fun v B5 H5 d i2 hd n5 o5 s5 rv => ?_
    obtain ⟨ss, h1, h2, h3, rfl⟩ := hd
    exact ret v B5 H5 (.clip bx ss) i2 ⟨hbx, h1⟩ (by rw [szS]; omega) h3 (NewG.trans s4 N4 n5) s5 rv
  walk_at "u_n"
  have N3 := NewG.trans s2 N2 (u3.new.g (Z := Zu p q r))
  have s3 := (Zu p q r).up j H2 H3 s2 u3.heap
  refine s_seq (s_if (b := decide (m = 4)) u3.sub (ec_t (ev_op (ev_v rfl (.int _)) ev_i (rv_inl rv_eqI))) (fun hb4 H4 u4 => ?_) fun hb4 H4 u4 => ?_)
  · have N4 := NewG.trans s3 N3 (u4.new.g (Z := Zu p q r))
    have s4 := (Zu p q r).up j H3 H4 s3 u4.heap
    refine s_seq (s_asgG (Z := Zu p q r) (P := fun d i => ∃ x y : Int, (-2 ≤ x ∧ x ≤ 2) ∧ (-2 ≤ y ∧ y ≤ 2) ∧ d = .lst [.int x, .int y] ∧ i = j) u4.sub o1 s4
      (eg_lcR (m := 2) (fun n ds i => ds.length = n ∧ (∀ (i' : Nat) (d : Dt), ds[i']? = some d → ∃ x : Int, (-2 ≤ x ∧ x ≤ 2) ∧ d = .int x) ∧ i = j) (ea_cons ev_i ea_nil) (by decide) (fun _ => rfl) ⟨rfl, (fun i d h => by rw [List.getElem?_nil] at h; cases h), rfl⟩ (fun i ds i2 hi hI => ?_) (fun _ _ _ h => h.1) (fun ds i2 hI => ?_)) fun v B5 H5 d i hd n5 o5 s5 rv => ?_)
    · refine eg_op (P1 := fun d i3 => (∃ r : Int, d = .int r ∧ 0 ≤ r ∧ r < 5) ∧ i3 = i2) (eg_take dkIn_u rfl ev_i (by decide) (by decide)) fun d i3 hd => ?_
      obtain ⟨⟨x, rfl, x0, x1⟩, rfl⟩ := hd
      exact eg_R ev_i ⟨.int (x - 2), ⟨by rw [List.length_append, hI.1]; rfl, snoc_get (Q := fun _ (d : Dt) => ∃ x : Int, (-2 ≤ x ∧ x ≤ 2) ∧ d = .int x) hI.1 hI.2.1 ⟨x - 2, by omega, rfl⟩, hI.2.2⟩, rv_sub⟩
    · obtain ⟨hl, hI, rfl⟩ := hI
      match ds, hl with
      | [d0, d1], _ =>
        obtain ⟨x, h0, rfl⟩ := hI 0 d0 rfl
        obtain ⟨y, h1, rfl⟩ := hI 1 d1 rfl
        exact ⟨x, y, h0, h1, rfl, rfl⟩
    walk_at "u_n"
    obtain ⟨x, y, hx, hy, rfl, rfl⟩ := hd
    have N5 := NewG.trans s4 N4 n5
    refine s_retG (Z := Zu p q r) (P := fun d i2 => ∃ ss, okPL a b l ss ∧ (szP ss : Int) + i2 = i ∧ 0 ≤ i2 ∧ d = eSt (.move x y ss)) n5.sub o5 s5 (eg_tup (PL := fun ds i2 => ∃ ss, okPL a b l ss ∧ (szP ss : Int) + i2 = i ∧ 0 ≤ i2 ∧ ds = [.str "move", .int x, .int y, .tup (ePg ss)])
      ((ega_cons (P := fun d i2 => d = .str "move" ∧ i2 = i) (PR := fun _ _ es i2 => ∃ ss, okPL a b l ss ∧ (szP ss : Int) + i2 = i ∧ 0 ≤ i2 ∧ es = [.int x, .int y, .tup (ePg ss)]) (eg_R ev_s ⟨rfl, rfl⟩) fun d i2 hd => by
        obtain ⟨_, rfl⟩ := hd
        exact (ega_cons (P := fun d i3 => d = .int x ∧ i3 = i2) (PR := fun _ _ es i3 => ∃ ss, okPL a b l ss ∧ (szP ss : Int) + i3 = i2 ∧ 0 ≤ i3 ∧ es = [.int y, .tup (ePg ss)]) (eg_R (ev_op (ev_v rfl rv) ev_i (rv_ixL rfl)) ⟨rfl, rfl⟩) fun d i3 hd => by
          obtain ⟨_, rfl⟩ := hd
          exact (ega_cons (P := fun d i4 => d = .int y ∧ i4 = i3) (PR := fun _ _ es i4 => ∃ ss, okPL a b l ss ∧ (szP ss : Int) + i4 = i3 ∧ 0 ≤ i4 ∧ es = [.tup (ePg ss)]) (eg_R (ev_op (ev_v rfl rv) ev_i (rv_ixL rfl)) ⟨rfl, rfl⟩) fun d i4 hd => by
            obtain ⟨_, rfl⟩ := hd
            exact (ega_cons (PR := fun _ j1 es i5 => es = [] ∧ i5 = j1) (eg_prog (lv := l) rfl rfl (ev_v rfl (rw1.mono n5.ext)) (lev rfl) f hl1.1 k0 k1) fun d i5 hd => ega_nil).imp (by
              rintro ds i5 ⟨d, j1, es, rfl, ⟨ss, h1, h2, h3, rfl⟩, rfl, rfl⟩
              exact ⟨ss, h1, h2, h3, rfl⟩)).imp (by
            rintro ds i5 ⟨d, j1, es, rfl, ⟨rfl, rfl⟩, ss, h1, h2, h3, rfl⟩
            exact ⟨ss, h1, h2, h3, rfl⟩)).imp (by
          rintro ds i4 ⟨d, j1, es, rfl, ⟨rfl, rfl⟩, ss, h1, h2, h3, rfl⟩
          exact ⟨ss, h1, h2, h3, rfl⟩)).imp (by
        rintro ds i4 ⟨d, j1, es, rfl, ⟨rfl, rfl⟩, ss, h1, h2, h3, rfl⟩
        exact ⟨ss, h1, h2, h3, rfl⟩)) (by
      rintro ds i4 ⟨ss, h1, h2, h3, rfl⟩
      exact ⟨by simp, ss, h1, h2, h3, by rw [eSt]⟩)) fun v B6 H6 d i2 hd n6 o6 s6 rv => ?_
    obtain ⟨ss, h1, h2, h3, rfl⟩ := hd
    exact ret v B6 H6 (.move x y ss) i2 ⟨hx.1, hx.2, hy.1, hy.2, h1⟩ (by rw [szS]; omega) h3 (NewG.trans s5 N5 n6) s6 rv
  walk_at "u_n"
  have N4 := NewG.trans s3 N3 (u4.new.g (Z := Zu p q r))
  have s4 := (Zu p q r).up j H3 H4 s3 u4.heap
  refine s_seq (s_asgG (Z := Zu p q r) (P := fun d i => ∃ x : Int, 0 ≤ x ∧ x < 2 ∧ d = .int x ∧ i = j) u4.sub o1 s4 ((eg_take dkIn_u rfl ev_i (by decide) (by decide)).imp ?_) fun v B5 H5 d i hd n5 o5 s5 rv => ?_)
  · rintro d j ⟨⟨m, rfl, m0, m1⟩, rfl⟩; exact ⟨m, m0, m1, rfl, rfl⟩
  walk_at "u_n"
  obtain ⟨x, x0, x1, rfl, rfl⟩ := hd
  cases rv
  have N5 := NewG.trans s4 N4 n5
  have rw5 := rw1.mono n5.ext
  obtain ⟨ax, hax⟩ : ∃ ax : Bool, ax = decide (x = 0) := ⟨_, rfl⟩
  have hmany : 1 ≤ (if ax = true then a else b) ∧ (if ax = true then a else b) ≤ 3 := by cases ax <;> simp <;> omega
  refine s_seq (s_asgG (Z := Zu p q r) (P := fun d i2 => ∃ c e : Cor, CorL (if ax = true then a else b) c ∧ CorL (if ax = true then a else b) e ∧ d = .lst [eCor c, eCor e] ∧ i2 = i) n5.sub o5 s5
    (eg_lcR (m := 2) (fun n ds i2 => ds.length = n ∧ (∀ (i' : Nat) (d : Dt), ds[i']? = some d → ∃ c : Cor, CorL (if ax = true then a else b) c ∧ d = eCor c) ∧ i2 = i) (ea_cons ev_i ea_nil) (by decide) (fun _ => rfl) ⟨rfl, (fun i d h => by rw [List.getElem?_nil] at h; cases h), rfl⟩ (fun i' ds i2 hi hI => ?_) (fun _ _ _ h => h.1) (fun ds i2 hI => ?_)) fun v B6 H6 d i2 hd n6 o6 s6 rv => ?_)
  · refine (eg_callK (as := [.int (if ax = true then a else b)]) dkIn_u rfl (ea_cons (ev_op (ev_v rfl rw5) (ev_v rfl (.int _)) (rv_ixT ?_)) ea_nil) ⟨_, rfl, hmany⟩).imp ?_
    · have : x = 0 ∨ x = 1 := by omega
      rcases this with rfl | rfl
      · rw [hax]; rfl
      · rw [hax]; rfl
    · rintro d i3 ⟨⟨m', c, hm, hc, rfl⟩, rfl⟩
      cases hm
      exact ⟨by rw [List.length_append, hI.1]; rfl, snoc_get (Q := fun _ (d : Dt) => ∃ c : Cor, CorL (if ax = true then a else b) c ∧ d = eCor c) hI.1 hI.2.1 ⟨c, hc, rfl⟩, hI.2.2⟩
  · obtain ⟨hl, hI, rfl⟩ := hI
    match ds, hl with
    | [d0, d1], _ =>
      obtain ⟨c, h0, rfl⟩ := hI 0 d0 rfl
      obtain ⟨c2, h1, rfl⟩ := hI 1 d1 rfl
      exact ⟨c, c2, h0, h1, rfl, rfl⟩
  walk_at "u_n"
  obtain ⟨c, c2, hc, hc2, rfl, rfl⟩ := hd
  have N6 := NewG.trans s5 N5 n6
  have rw6 := rw5.mono n6.ext
  refine s_seq (s_asgG (Z := Zu p q r) n6.sub o6 s6 (eg_prog (lv := l) rfl rfl (ev_v rfl rw6) (lev rfl) f hl1.1 k0 k1) fun v7 B7 H7 d i3 hd n7 o7 s7 rv7 => ?_)
  walk_at "u_n"
  obtain ⟨ss, h1, h2, h3, rfl⟩ := hd
  have N7 := NewG.trans s6 N6 n7
  have rv := rv.mono n7.ext
  refine s_retG (Z := Zu p q r) (P := fun d i4 => ∃ ts, okPL a b l ts ∧ (szP ts : Int) + i4 = i3 ∧ 0 ≤ i4 ∧ d = eSt (.iff ax c c2 ss ts)) n7.sub o7 s7 (eg_tup (PL := fun ds i4 => ∃ ts, okPL a b l ts ∧ (szP ts : Int) + i4 = i3 ∧ 0 ≤ i4 ∧ ds = [.str "if", .str (axS ax), eCor c, eCor c2, .tup (ePg ss), .tup (ePg ts)])
    ((ega_cons (P := fun d i4 => d = .str "if" ∧ i4 = i3) (PR := fun _ _ es i4 => ∃ ts, okPL a b l ts ∧ (szP ts : Int) + i4 = i3 ∧ 0 ≤ i4 ∧ es = [.str (axS ax), eCor c, eCor c2, .tup (ePg ss), .tup (ePg ts)]) (eg_R ev_s ⟨rfl, rfl⟩) fun d i4 hd => by
      obtain ⟨_, rfl⟩ := hd
      exact (ega_cons (P := fun d i5 => d = .str (axS ax) ∧ i5 = i4) (PR := fun _ _ es i5 => ∃ ts, okPL a b l ts ∧ (szP ts : Int) + i5 = i4 ∧ 0 ≤ i5 ∧ es = [eCor c, eCor c2, .tup (ePg ss), .tup (ePg ts)]) (eg_R (ev_op ev_s (ev_v rfl (.int x)) (hax ▸ rv_xy x0 x1)) ⟨rfl, rfl⟩) fun d i5 hd => by
        obtain ⟨_, rfl⟩ := hd
        exact (ega_cons (P := fun d i6 => d = eCor c ∧ i6 = i5) (PR := fun _ _ es i6 => ∃ ts, okPL a b l ts ∧ (szP ts : Int) + i6 = i5 ∧ 0 ≤ i6 ∧ es = [eCor c2, .tup (ePg ss), .tup (ePg ts)]) (eg_R (ev_op (ev_v rfl rv) ev_i (rv_ixL rfl)) ⟨rfl, rfl⟩) fun d i6 hd => by
          obtain ⟨_, rfl⟩ := hd
          exact (ega_cons (P := fun d i7 => d = eCor c2 ∧ i7 = i6) (PR := fun _ _ es i7 => ∃ ts, okPL a b l ts ∧ (szP ts : Int) + i7 = i6 ∧ 0 ≤ i7 ∧ es = [.tup (ePg ss), .tup (ePg ts)]) (eg_R (ev_op (ev_v rfl rv) ev_i (rv_ixL rfl)) ⟨rfl, rfl⟩) fun d i7 hd => by
            obtain ⟨_, rfl⟩ := hd
            exact (ega_cons (P := fun d i8 => d = .tup (ePg ss) ∧ i8 = i7) (PR := fun _ _ es i8 => ∃ ts, okPL a b l ts ∧ (szP ts : Int) + i8 = i7 ∧ 0 ≤ i8 ∧ es = [.tup (ePg ts)]) (eg_R (ev_v rfl rv7) ⟨rfl, rfl⟩) fun d i8 hd => by
              obtain ⟨_, rfl⟩ := hd
              exact (ega_cons (PR := fun _ j1 es i9 => es = [] ∧ i9 = j1) (eg_prog (lv := l) rfl rfl (ev_v rfl (rw6.mono n7.ext)) (lev rfl) f hl1.1 h3 (by omega)) fun d i9 hd => ega_nil).imp (by
                rintro ds i9 ⟨d, j1, es, rfl, ⟨ts, h1, h2, h3, rfl⟩, rfl, rfl⟩
                exact ⟨ts, h1, h2, h3, rfl⟩)).imp (by
              rintro ds i9 ⟨d, j1, es, rfl, ⟨rfl, rfl⟩, ts, h1, h2, h3, rfl⟩
              exact ⟨ts, h1, h2, h3, rfl⟩)).imp (by
            rintro ds i9 ⟨d, j1, es, rfl, ⟨rfl, rfl⟩, ts, h1, h2, h3, rfl⟩
            exact ⟨ts, h1, h2, h3, rfl⟩)).imp (by
          rintro ds i9 ⟨d, j1, es, rfl, ⟨rfl, rfl⟩, ts, h1, h2, h3, rfl⟩
          exact ⟨ts, h1, h2, h3, rfl⟩)).imp (by
        rintro ds i9 ⟨d, j1, es, rfl, ⟨rfl, rfl⟩, ts, h1, h2, h3, rfl⟩
        exact ⟨ts, h1, h2, h3, rfl⟩)).imp (by
      rintro ds i9 ⟨d, j1, es, rfl, ⟨rfl, rfl⟩, ts, h1, h2, h3, rfl⟩
      exact ⟨ts, h1, h2, h3, rfl⟩)) (by
    rintro ds i9 ⟨ts, h1, h2, h3, rfl⟩
    exact ⟨by simp, ts, h1, h2, h3, by rw [eSt]⟩)) fun v B8 H8 d i4 hd n8 o8 s8 rv8 => ?_
  obtain ⟨ts, g1, g2, g3, rfl⟩ := hd
  exact ret v B8 H8 (.iff ax c c2 ss ts) i4 ⟨hc, hc2, h1, g1⟩ (by rw [szS]; omega) g3 (NewG.trans s7 N7 n8) s8 rv8

theorem szP_append : ∀ ss ts : List Sm, szP (ss ++ ts) = szP ss + szP ts
  | [], ts => by rw [List.nil_append, szP]; omega
  | s :: ss, ts => by rw [List.cons_append, szP, szP, szP_append ss ts]; omega
theorem st__law_program (T : Txt K mg fa fd) {l lv : Nat} (hk : 3 ≤ lv) (rec__law_statement : FnG P w K mg base CX0 lv (fa 57) (fd 57) ["deck", "home", "purse", "levels"] (spStat (l + 1))) : FnG P w K mg base CX0 (lv + 1) (fa 58) (fd 58) ["deck", "home", "purse", "levels"] (spProg (l + 1)) := by
  refine fn_S T.d__law_program.F sc__law_program (fun vs H Q E h => by obtain ⟨_, _, _, _, _, _, _, _, rfl, _⟩ := h; rfl) (fun cdv Γ below s H vs Q E hg hr h => ?_)
  obtain ⟨p, q, r, w, B, k, a, b, rfl, e, o, st, rw', f, l1, k0, k1, ret⟩ := h
  have hu := hr.units
  refine ⟨_, (pss_cons (ps_set (i := 4) sc__law_program.nd rfl (by first | exact Or.inl rfl | exact Or.inr rfl) (pe_callB (c_min rfl) rfl T.n_min (by decide +kernel) (pa_cons (pe_callTy c_int rfl T.n_int (by decide +kernel) (pa_cons (pe_ix (k_ix (K := K) rfl) (pv 2) pe_int (fun _ _ => rfl)) pa_nil)) (pa_cons (pe_callTy c_int rfl T.n_int (by decide +kernel) (pa_cons (pe_go (ok__law_take T) hg (hr.mono (by omega)) rfl T.d__law_take.at_ T.d__law_take.F.kp (bn__law_take T) pass0 (pa_cons (pv 0) (pa_cons pe_int pa_nil))) pa_nil)) pa_nil)))) (pss_cons (ps_asg (pe_op op_sub (pe_ix (k_ix (K := K) rfl) (pv 2) pe_int (fun _ _ => rfl)) (pv 4)) (pg_sub (pv 2) pe_int set_list)) (pss_one (ps_ret (pe_callTy (k_tuple (K := K) rfl) rfl T.n_tuple (by decide +kernel) (pa_cons (pe_lc (own := [("turn", 5)]) (g := (gName 5)) (tt := tYes) rfl sc__law_program.nd (pi_range1 rfl T.n_range (pa_cons (pv 4) pa_nil)) (blkOk_by (N := ["deck", "home", "purse", "levels", "many", "turn"]) (sc := defScope s__law_program) (by decide +kernel)) (fun _ _ _ _ _ => (pg_name (i := 5) sc__law_program.nd rfl (by first | exact Or.inl rfl | exact Or.inr rfl))) (fun _ _ _ _ _ => pts_nil) (fun _ _ _ _ _ => (pe_go rec__law_statement hg (hr.mono (by omega)) rfl T.d__law_statement.at_ T.d__law_statement.F.kp (bn__law_statement T) pass0 (pa_cons (pv 0) (pa_cons (pv 1) (pa_cons (pv 2) (pa_cons (pv 3) pa_nil))))))) pa_nil)))))), ?_⟩
  refine s_seq (s_asgG (Z := Zu p q r) (P := fun d j => ∃ m : Int, 0 ≤ m ∧ m ≤ k ∧ m ≤ 4 ∧ d = .int m ∧ j = k) e o st (eg_cb (PL := fun ds j => ∃ m : Int, 0 ≤ m ∧ m ≤ 4 ∧ ds = [.int k, .int m] ∧ j = k)
    ((ega_cons (P := fun d j => d = .int k ∧ j = k) (PR := fun _ _ es j => ∃ m : Int, 0 ≤ m ∧ m ≤ 4 ∧ es = [.int m] ∧ j = k) (eg_cb (PL := fun ds j => ds = [.int k] ∧ j = k) ((ega_cons (P := fun d j => d = .int k ∧ j = k) (PR := fun _ _ es j => es = [] ∧ j = k) (eg_purse rfl) fun d j hd => (ega_nil).imp ?_).imp ?_) ?_) fun d j hd =>
      (ega_cons (P := fun d j => ∃ m : Int, 0 ≤ m ∧ m ≤ 4 ∧ d = .int m ∧ j = k) (PR := fun _ _ es j => es = [] ∧ j = k) (eg_cb (PL := fun ds j => ∃ m : Int, 0 ≤ m ∧ m ≤ 4 ∧ ds = [.int m] ∧ j = k) ((ega_cons (P := fun d j => ∃ m : Int, 0 ≤ m ∧ m ≤ 4 ∧ d = .int m ∧ j = k) (PR := fun _ _ es j => es = [] ∧ j = k) ((eg_take dkIn_u rfl ev_i (by decide) (by decide)).imp ?_) fun d j hd => (ega_nil).imp ?_).imp ?_) ?_) fun d j hd => (ega_nil).imp ?_).imp ?_).imp ?_) ?_) fun v B1 H1 d j hd n o1 s1 rv => ?_)
  · rintro ds j2 ⟨rfl, rfl⟩; exact ⟨rfl, hd.2⟩
  · rintro ds j ⟨d, j1, es, rfl, ⟨rfl, rfl⟩, rfl, rfl⟩; exact ⟨rfl, rfl⟩
  · rintro ds j ⟨rfl, rfl⟩; exact ⟨_, ⟨rfl, rfl⟩, rl_int⟩
  · rintro d2 j2 ⟨⟨m, rfl, m0, m1⟩, rfl⟩; exact ⟨m, m0, by omega, rfl, hd.2⟩
  · rintro ds j2 ⟨rfl, rfl⟩; obtain ⟨_, _, _, _, h⟩ := hd; exact ⟨rfl, h⟩
  · rintro ds j ⟨d, j1, es, rfl, ⟨m, m0, m1, rfl, rfl⟩, rfl, rfl⟩; exact ⟨m, m0, m1, rfl, rfl⟩
  · rintro ds j ⟨m, m0, m1, rfl, rfl⟩; exact ⟨_, ⟨m, m0, m1, rfl, rfl⟩, rl_int⟩
  · rintro ds j2 ⟨rfl, rfl⟩; obtain ⟨_, _, _, _, h⟩ := hd; exact ⟨rfl, h⟩
  · rintro ds j ⟨d, j1, es, rfl, ⟨m, m0, m1, rfl, rfl⟩, rfl, rfl⟩; exact ⟨m, m0, m1, rfl, rfl⟩
  · rintro ds j ⟨d, j1, es, rfl, ⟨rfl, rfl⟩, m, m0, m1, rfl, rfl⟩; exact ⟨m, m0, m1, rfl, rfl⟩
  · rintro ds j ⟨m, m0, m1, rfl, rfl⟩
    exact ⟨.int (if m < j then m else j), ⟨_, by split <;> omega, by split <;> omega, by split <;> omega, rfl, rfl⟩, rl_min2⟩
  walk_at "u_n"
  obtain ⟨m, m0, m1, m2, rfl, rfl⟩ := hd
  cases rv
  refine s_seq (s_setU (z := j - m) n.sub o1 s1 rfl (eg_op (P1 := fun d i => d = .int j ∧ i = j) (eg_purse rfl) fun d i hd => ?_) fun B2 H2 n2 o2 s2 => ?_)
  · obtain ⟨rfl, rfl⟩ := hd
    exact eg_R (ev_v rfl (.int m)) ⟨_, ⟨rfl, rfl⟩, rv_sub⟩
  walk_at "u_n"
  have N2 := NewG.trans s1 n n2
  refine s_retG (Z := Zu p q r) (P := fun d i => ∃ ss, okPL a b (l + 1) ss ∧ (szP ss : Int) + i = j ∧ 0 ≤ i ∧ d = .tup (ePg ss)) n2.sub o2 s2 (eg_cb (PL := fun ds i => ∃ ss, okPL a b (l + 1) ss ∧ (szP ss : Int) + i = j ∧ 0 ≤ i ∧ ds = [.lst (ePg ss)]) ((ega_cons (P := fun d i => ∃ ss, okPL a b (l + 1) ss ∧ (szP ss : Int) + i = j ∧ 0 ≤ i ∧ d = .lst (ePg ss)) (PR := fun _ i1 es i => es = [] ∧ i = i1)
    (eg_lcR (m := m.toNat) (fun n ds i => ds.length = n ∧ ∃ ss : List Sm, ds = ss.map eSt ∧ (∀ s ∈ ss, okSL a b (okPL a b l) s) ∧ (szP ss : Int) + i = j - m + n ∧ 0 ≤ i ∧ i ≤ 100) (ea_cons ((ev_v rfl (.int m)).is (by congr 1; omega)) ea_nil) (by omega) (fun _ => rfl) ⟨rfl, [], rfl, fun s h => by simp at h, by rw [szP]; simp, by omega, by omega⟩ (fun i ds i2 hi hI => ?_) (fun _ _ _ h => h.1) (fun ds i2 hI => ?_)) fun d i hd => ega_nil).imp ?_) ?_) fun v B3 H3 d i hd n3 o3 s3 rv => ?_
  · obtain ⟨hl, ss, rfl, hss, hsz, i0, i1⟩ := hI
    refine (eg_stat (lv := l + 1) rfl rfl (ev_v rfl ((rw'.mono n.ext).mono n2.ext)) (ev_v rfl (.int _)) f (by omega) i0 i1).imp ?_
    rintro d i3 ⟨s, h1, h2, h3, rfl⟩
    refine ⟨by rw [List.length_append, hl]; rfl, ss ++ [s], by rw [List.map_append]; rfl, fun s' hs' => ?_, ?_, h3, ?_⟩
    · rcases List.mem_append.mp hs' with hs' | hs'
      · exact hss s' hs'
      · rw [List.mem_singleton.mp hs']; exact h1
    · rw [szP_append, szP, szP]
      omega
    · have := szS_pos s
      omega
  · obtain ⟨hl, ss, rfl, hss, hsz, i0, i1⟩ := hI
    exact ⟨ss, hss, by omega, i0, by rw [ePg_map]⟩
  · rintro ds i ⟨d, j1, es, rfl, ⟨ss, h1, h2, h3, rfl⟩, rfl, rfl⟩
    exact ⟨ss, h1, h2, h3, rfl⟩
  · rintro ds i ⟨ss, h1, h2, h3, rfl⟩
    exact ⟨_, ⟨ss, h1, h2, h3, rfl⟩, rl_tuple⟩
  · obtain ⟨ss, h1, h2, h3, rfl⟩ := hd
    exact ret v B3 H3 ss i h1 h2 h3 (NewG.trans s2 N2 n3) s3 rv
theorem ok__law_program_n (T : Txt K mg fa fd) : ∀ n : Nat, FnG P w K mg base CX0 (4 + 2 * n) (fa 58) (fd 58) ["deck", "home", "purse", "levels"] (spProg n)
  | 0 => ⟨fun vs H Q E z => by obtain ⟨_, _, _, _, _, _, _, _, rfl, _⟩ := z; rfl, fun Γ _ _ below st H _ given us as _ _ Q E z => by obtain ⟨_, _, _, _, _, _, _, _, _, _, _, _, _, _, h, _⟩ := z; exact absurd h (by decide)⟩
  | n + 1 => st__law_program T (lv := 4 + 2 * n + 1) (by omega) (st__law_statement T (lv := 4 + 2 * n) (by omega) (ok__law_program_n T n))
theorem ok__law_program (T : Txt K mg fa fd) : FnG P w K mg base CX0 21 (fa 58) (fd 58) ["deck", "home", "purse", "levels"] (spProg 4) := (ok__law_program_n T 4).up (by decide)

def pre__law_home (as : List Dt) : Prop := as = [.int 6]
def g__law_home (as : List Dt) (d : Dt) : Prop := ∃ a b : Int, FrOk a b ∧ d = eFr a b
theorem ok__law_home (T : Txt K mg fa fd) : FnG P w K mg base CX0 2 (fa 59) (fd 59) ["deck", "most"] (spK pre__law_home g__law_home) := by
  refine fn_K T.d__law_home.F sc__law_home (fun ds h => by cases h; rfl) (fun cdv Γ below s p q B H ws as Q E hg hr e o k ra hp ret => ?_)
  cases hp
  rcases ra with _ | ⟨r1, _ | _⟩
  cases r1
  have hu := hr.units
  refine ⟨_, (pss_cons (ps_set (i := 2) sc__law_home.nd rfl (by first | exact Or.inl rfl | exact Or.inr rfl) (pe_op op_addA pe_int (pe_go (ok__law_take T) hg (hr.mono (by decide)) rfl T.d__law_take.at_ T.d__law_take.F.kp (bn__law_take T) pass0 (pa_cons (pv 0) (pa_cons pe_int pa_nil))))) (pss_one (ps_ret (pe_tup (pa_cons (pv 2) (pa_cons (pe_op op_addA pe_int (pe_go (ok__law_take T) hg (hr.mono (by decide)) rfl T.d__law_take.at_ T.d__law_take.F.kp (bn__law_take T) pass0 (pa_cons (pv 0) (pa_cons (pe_callB (c_min rfl) rfl T.n_min (by decide +kernel) (pa_cons pe_int (pa_cons (pe_op op_sub (pv 1) (pv 2)) pa_nil))) pa_nil)))) pa_nil)))))), ?_⟩
  refine s_seq (s_asgG (Z := Zd p q) (P := fun d _ => ∃ a : Int, d = .int a ∧ 1 ≤ a ∧ a ≤ 3) e o k (eg_op (P1 := fun d _ => d = .int 1) (eg_R ev_i rfl) fun d j hd => (eg_take dkIn_d rfl ev_i (by decide) (by decide)).imp ?_) fun v B1 H1 d j hd n o1 k1 rv => ?_)
  · rintro d2 j2 ⟨⟨r, rfl, r0, r1⟩, _⟩
    cases hd
    exact ⟨.int (1 + r), ⟨1 + r, rfl, by omega, by omega⟩, rv_inl rv_add⟩
  walk_at "u_n"
  obtain ⟨a, rfl, a1, a2⟩ := hd
  cases rv
  refine s_retG (Z := Zd p q) (P := fun d _ => ∃ b : Int, 1 ≤ b ∧ b ≤ 3 ∧ d = eFr a b) n.sub o1 k1 (eg_tup (PL := fun ds _ => ∃ b : Int, 1 ≤ b ∧ b ≤ 3 ∧ ds = [.int a, .int b]) ((ega_cons (P := fun d _ => d = .int a) (PR := fun _ _ es _ => ∃ b : Int, 1 ≤ b ∧ b ≤ 3 ∧ es = [.int b]) (eg_R (ev_v rfl (.int _)) rfl) fun d j hd =>
    (ega_cons (P := fun d _ => ∃ b : Int, 1 ≤ b ∧ b ≤ 3 ∧ d = .int b) (PR := fun _ _ es _ => es = []) (eg_op (P1 := fun d _ => d = .int 1) (eg_R ev_i rfl) fun d j hd => (eg_take (m := if 6 - a < 3 then 6 - a else 3) dkIn_d rfl (ev_cb (ea_cons ev_i (ea_cons (ev_op (ev_v rfl (.int _)) (ev_v rfl (.int _)) rv_sub) ea_nil)) rl_min2) (by split <;> omega) (by split <;> omega)).imp ?_) fun _ _ _ => ega_nil.imp fun _ _ h => h.1).imp ?_).imp ?_) ?_) fun v B2 H2 d j hd n2 o2 k2 rv => ?_
  · rintro d2 j2 ⟨⟨r, rfl, r0, r1⟩, _⟩
    cases hd
    exact ⟨.int (1 + r), ⟨1 + r, by omega, by split at r1 <;> omega, rfl⟩, rv_inl rv_add⟩
  · rintro ds j ⟨d, j1, es, rfl, ⟨b, b1, b2, rfl⟩, rfl⟩
    exact ⟨b, b1, b2, rfl⟩
  · rintro ds j ⟨d, j1, es, rfl, rfl, b, b1, b2, rfl⟩
    exact ⟨b, b1, b2, rfl⟩
  · rintro ds j ⟨b, b1, b2, rfl⟩
    exact ⟨by simp, b, b1, b2, rfl⟩
  · obtain ⟨b, b1, b2, rfl⟩ := hd
    exact ret v B2 H2 _ ⟨a, b, ⟨a1, a2, b1, b2⟩, rfl⟩ (NewG.trans k1 n n2) k2 rv

def pre__law_setting (as : List Dt) : Prop := ∃ a b st : Int, as = [eFr a b, .int st] ∧ FrOk a b ∧ 0 ≤ st ∧ st < 4
def NearI (vs : List Int) : Prop := ∀ x ∈ vs, -(10 ^ 15) < x ∧ x < 10 ^ 15
def NearS (st : Int) (vs : List Int) : Prop := NearI vs ∧ (st < 2 → ∀ x ∈ vs, -3 ≤ x ∧ x ≤ 5)
def g__law_setting (as : List Dt) (d : Dt) : Prop := ∃ (a b st : Int) (p q : List Int), as = [eFr a b, .int st] ∧ SetOk a b p q ∧ NearS st p ∧ NearS st q ∧ d = eSet p q
def farL (st : Int) : Int := [4, 9, 10 ^ 9, 10 ^ 15].getD st.toNat 0
theorem farL_le {st : Int} (h0 : 0 ≤ st) (h1 : st < 4) : 4 ≤ farL st ∧ farL st ≤ 10 ^ 15 := by
  have : st = 0 ∨ st = 1 ∨ st = 2 ∨ st = 3 := by omega
  rcases this with rfl | rfl | rfl | rfl <;> decide
theorem farL_sm {st : Int} (h0 : 0 ≤ st) (h1 : st < 2) : farL st ≤ 9 := by
  have : st = 0 ∨ st = 1 := by omega
  rcases this with rfl | rfl <;> decide
theorem ok__law_setting (T : Txt K mg fa fd) : FnG P w K mg base CX0 2 (fa 60) (fd 60) ["deck", "home", "style"] (spK pre__law_setting g__law_setting) := by
  refine fn_K T.d__law_setting.F sc__law_setting (fun ds h => by obtain ⟨_, _, _, rfl, _⟩ := h; rfl) (fun cdv Γ below s p q B H ws as Q E hg hr e o k ra hp ret => ?_)
  obtain ⟨a, b, st, rfl, ⟨f1, f2, f3, f4⟩, s0, s1⟩ := hp
  rcases ra with _ | ⟨r1, _ | ⟨r2, _ | _⟩⟩
  cases r2
  have hu := hr.units
  refine ⟨_, (pss_cons (ps_set (i := 3) sc__law_setting.nd rfl (by first | exact Or.inl rfl | exact Or.inr rfl) (pe_ix (k_ix (K := K) rfl) (pe_lst (pa_cons pe_int (pa_cons pe_int (pa_cons (pe_op op_pow pe_int pe_int) (pa_cons (pe_op op_pow pe_int pe_int) pa_nil))))) (pv 2) (fun _ _ => rfl))) (pss_one (ps_ret (pe_callTy (k_tuple (K := K) rfl) rfl T.n_tuple (by decide +kernel) (pa_cons (pe_lc (own := [("many", 5)]) (g := (gName 5)) (tt := tYes) rfl sc__law_setting.nd (k_seq (K := K) rfl (pv 1)) (blkOk_by (N := ["deck", "home", "style", "far", "turn", "many"]) (sc := defScope s__law_setting) (by decide +kernel)) (fun _ _ _ _ _ => (pg_name (i := 5) sc__law_setting.nd rfl (by first | exact Or.inl rfl | exact Or.inr rfl))) (fun _ _ _ _ _ => pts_nil) (fun _ _ _ _ _ => (pe_lc (own := [("turn", 4)]) (g := (gName 4)) (tt := tYes) rfl sc__law_setting.nd (pi_range1 rfl T.n_range (pa_cons (pv 5) pa_nil)) (blkOk_by (by kernel_rfl)) (fun _ _ _ _ _ => (pg_name (i := 4) sc__law_setting.nd rfl (by first | exact Or.inl rfl | exact Or.inr rfl))) (fun _ _ _ _ _ => pts_nil) (fun _ _ _ _ _ => (pe_op op_sub (pe_go (ok__law_take T) hg (hr.mono (by decide)) rfl T.d__law_take.at_ T.d__law_take.F.kp (bn__law_take T) pass0 (pa_cons (pv 0) (pa_cons (pv 3) pa_nil))) (pe_op op_fdiv (pv 3) pe_int)))))) pa_nil))))), ?_⟩
  obtain ⟨g1, g2⟩ := farL_le s0 s1
  refine s_seq (s_asgG (Z := Zd p q) (P := fun d _ => d = .int (farL st)) e o k (eg_R (ev_op (ev_lst (ea_cons ev_i (ea_cons ev_i (ea_cons (ev_op ev_i ev_i (rv_pow ⟨by decide, by decide, by decide⟩)) (ea_cons (ev_op ev_i ev_i (rv_pow ⟨by decide, by decide, by decide⟩)) ea_nil)))) (by simp)) (ev_v rfl (.int _)) (rv_ixL ?_)) rfl) fun v B1 H1 d j hd n o1 k1 rv => ?_)
  · have : st = 0 ∨ st = 1 ∨ st = 2 ∨ st = 3 := by omega
    rcases this with rfl | rfl | rfl | rfl <;> rfl
  walk_at "u_n"
  cases hd
  cases rv
  have r1 := r1.mono n.ext
  refine s_retG (Z := Zd p q) (P := fun d _ => ∃ u w : List Int, SetOk a b u w ∧ NearS st u ∧ NearS st w ∧ d = eSet u w) n.sub o1 k1 (eg_cb (PL := fun es _ => ∃ u w : List Int, SetOk a b u w ∧ NearS st u ∧ NearS st w ∧ es = [.lst [eI u, eI w]]) ((ega_cons (P := fun d _ => ∃ u w : List Int, SetOk a b u w ∧ NearS st u ∧ NearS st w ∧ d = .lst [eI u, eI w]) (PR := fun _ _ es _ => es = [])
    (eg_lcN (l := [a, b]) (enc := Dt.int) (fun n ds _ => ds.length = n ∧ ∀ i d, ds[i]? = some d → ∃ u : List Int, (u.length : Int) = [a, b].getD i 0 ∧ NearS st u ∧ d = eI u) (goesN_seq (ev_v rfl r1) (Items.tup _)) (by simp) ⟨rfl, fun i d h => by simp at h⟩ (fun i x ds j v B2 H2 k' hx hI e1 e2 rv go => ?_) (fun _ _ _ h => h.1) (fun ds j hI => ?_)) fun _ _ _ => ega_nil.imp fun _ _ h => h.1).imp ?_) fun ds j hd => ?_) (fun v B2 H2 d j hd n2 o2 k2 rv => ?_)
  · cases rv
    have hx1 : 1 ≤ x ∧ x ≤ 3 := by
      have := List.mem_of_getElem? hx
      simp only [List.mem_cons, List.not_mem_nil, or_false] at this
      rcases this with rfl | rfl
      · exact ⟨f1, f2⟩
      · exact ⟨f3, f4⟩
    have hxi : [a, b].getD i 0 = x := by rw [List.getD_eq_getElem?_getD, hx]; rfl
    refine go _ rfl ?_
    refine (eg_lcR (P := fun d _ => ∃ u : List Int, (u.length : Int) = x ∧ NearS st u ∧ d = eI u) (m := x.toNat) (fun n ds _ => ds.length = n ∧ ∃ u : List Int, ds = u.map .int ∧ NearS st u) (ea_cons ((ev_v rfl (.int x)).is (by congr 1; omega)) ea_nil) (by omega) (fun _ => rfl) ⟨rfl, [], rfl, (fun x h => by simp at h), fun _ x h => by simp at h⟩ (fun i' ds' j' hi' hI' => ?_) (fun _ _ _ h => h.1) (fun ds' j' hI' => ?_)).imp ?_
    · refine eg_op (P1 := fun d _ => ∃ r : Int, d = .int r ∧ 0 ≤ r ∧ r < farL st) ((eg_take dkIn_d rfl (ev_v rfl (.int _)) (by omega) (by omega)).imp fun d j h => h.1) fun d j hd => ?_
      obtain ⟨r, rfl, r0, r1⟩ := hd
      refine eg_R (ev_op (ev_v rfl (.int _)) ev_i (rv_div ⟨by decide, by decide⟩)) ⟨.int (r - farL st / 3), ?_, rv_sub⟩
      obtain ⟨hl, u, rfl, hn⟩ := hI'
      refine ⟨by rw [List.length_append, hl]; rfl, u ++ [r - farL st / 3], by rw [List.map_append]; rfl, fun y hy => ?_, fun hst y hy => ?_⟩
      · rcases List.mem_append.mp hy with hy | hy
        · exact hn.1 y hy
        · rw [List.mem_singleton.mp hy]
          omega
      · have g3 := farL_sm s0 hst
        rcases List.mem_append.mp hy with hy | hy
        · exact hn.2 hst y hy
        · rw [List.mem_singleton.mp hy]
          omega
    · obtain ⟨hl, u, rfl, hn⟩ := hI'
      rw [List.length_map] at hl
      exact ⟨u, by omega, hn, rfl⟩
    · rintro d j' ⟨u, hl, hn, rfl⟩
      exact ⟨by rw [List.length_append, hI.1]; rfl, snoc_get (Q := fun i d => ∃ u : List Int, (u.length : Int) = [a, b].getD i 0 ∧ NearS st u ∧ d = eI u) hI.1 hI.2 ⟨u, by rw [hxi]; exact hl, hn, rfl⟩⟩
  · obtain ⟨hl, hI⟩ := hI
    match ds, hl with
    | [d0, d1], _ =>
      obtain ⟨u, h0, n0, rfl⟩ := hI 0 d0 rfl
      obtain ⟨w, h1, n1, rfl⟩ := hI 1 d1 rfl
      exact ⟨u, w, ⟨h0, h1, f1, f2, f3, f4⟩, n0, n1, rfl⟩
  · rintro ds j ⟨d, j1, es, rfl, ⟨u, w, h1, h2, h3, rfl⟩, rfl⟩
    exact ⟨u, w, h1, h2, h3, rfl⟩
  · obtain ⟨u, w, h1, h2, h3, rfl⟩ := hd
    exact ⟨_, ⟨u, w, h1, h2, h3, rfl⟩, rl_tuple⟩
  · obtain ⟨u, w, h1, h2, h3, rfl⟩ := hd
    exact ret v B2 H2 _ ⟨a, b, st, u, w, rfl, h1, h2, h3, rfl⟩ (NewG.trans k1 n n2) k2 rv

def g__law_inside (ds : List Dt) (d : Dt) : Prop := ∃ x y : Pt, ds = [ePt x, ePt y] ∧ d = ePt (insP x y)
theorem ok__law_inside (T : Txt K mg fa fd) : FnG P w K mg base CX0 1 (fa 61) (fd 61) ["one", "two"] (spD g__law_inside) := by
  refine fn_D T.d__law_inside.F sc__law_inside (fun ds d h => by obtain ⟨_, _, rfl, _⟩ := h; rfl) (fun cdv Γ below s B H vs ds d Q E hg hr e ra hd ret => ?_)
  obtain ⟨x, y, rfl, rfl⟩ := hd
  rcases ra with _ | ⟨r1, _ | ⟨r2, _ | _⟩⟩
  have hu := hr.units
  refine ⟨_, (pss_cons (ps_par (i := 2) (j := 3) rfl sc__law_inside.nd rfl rfl (by decide) rfl rfl (pa_cons (pe_callB (c_max rfl) rfl T.n_max (by decide +kernel) (pa_cons (pe_callTy c_int rfl T.n_int (by decide +kernel) (pa_cons (pe_ix (k_ix (K := K) rfl) (pv 0) pe_int (fun _ _ => rfl)) pa_nil)) (pa_cons (pe_callTy c_int rfl T.n_int (by decide +kernel) (pa_cons (pe_ix (k_ix (K := K) rfl) (pv 1) pe_int (fun _ _ => rfl)) pa_nil)) pa_nil))) (pa_cons (pe_callB (c_min rfl) rfl T.n_min (by decide +kernel) (pa_cons (pe_callTy c_int rfl T.n_int (by decide +kernel) (pa_cons (pe_ix (k_ix (K := K) rfl) (pv 0) pe_int (fun _ _ => rfl)) pa_nil)) (pa_cons (pe_callTy c_int rfl T.n_int (by decide +kernel) (pa_cons (pe_ix (k_ix (K := K) rfl) (pv 1) pe_int (fun _ _ => rfl)) pa_nil)) pa_nil))) pa_nil)) rfl) (pss_cons (ps_par (i := 4) (j := 5) rfl sc__law_inside.nd rfl rfl (by decide) rfl rfl (pa_cons (pe_callB (c_max rfl) rfl T.n_max (by decide +kernel) (pa_cons (pe_callTy c_int rfl T.n_int (by decide +kernel) (pa_cons (pe_ix (k_ix (K := K) rfl) (pv 0) pe_int (fun _ _ => rfl)) pa_nil)) (pa_cons (pe_callTy c_int rfl T.n_int (by decide +kernel) (pa_cons (pe_ix (k_ix (K := K) rfl) (pv 1) pe_int (fun _ _ => rfl)) pa_nil)) pa_nil))) (pa_cons (pe_callB (c_min rfl) rfl T.n_min (by decide +kernel) (pa_cons (pe_callTy c_int rfl T.n_int (by decide +kernel) (pa_cons (pe_ix (k_ix (K := K) rfl) (pv 0) pe_int (fun _ _ => rfl)) pa_nil)) (pa_cons (pe_callTy c_int rfl T.n_int (by decide +kernel) (pa_cons (pe_ix (k_ix (K := K) rfl) (pv 1) pe_int (fun _ _ => rfl)) pa_nil)) pa_nil))) pa_nil)) rfl) (pss_one (ps_ret (pe_lst (pa_cons (pv 2) (pa_cons (pv 3) (pa_cons (pv 4) (pa_cons (pv 5) pa_nil))))))))), ?_⟩
  unfold ePt at r1 r2
  refine s_seq (s_par (x := .int (insP x y).l) (y := .int (insP x y).r) e (ea_cons (ev_cb (ea_cons (ev_cb (ea_cons (ev_op (ev_v rfl r1) ev_i (rv_ixL rfl)) ea_nil) rl_int) (ea_cons (ev_cb (ea_cons (ev_op (ev_v rfl r2) ev_i (rv_ixL rfl)) ea_nil) rl_int) ea_nil)) rl_max2) (ea_cons (ev_cb (ea_cons (ev_cb (ea_cons (ev_op (ev_v rfl r1) ev_i (rv_ixL rfl)) ea_nil) rl_int) (ea_cons (ev_cb (ea_cons (ev_op (ev_v rfl r2) ev_i (rv_ixL rfl)) ea_nil) rl_int) ea_nil)) rl_min2) ea_nil)) fun v1 v2 B1 H1 n1 q1 q2 => ?_)
  cases q1; cases q2
  walk_at "u_m"
  have r1 := r1.mono n1.ext
  have r2 := r2.mono n1.ext
  refine s_seq (s_par (x := .int (insP x y).t) (y := .int (insP x y).b) n1.sub (ea_cons (ev_cb (ea_cons (ev_cb (ea_cons (ev_op (ev_v rfl r1) ev_i (rv_ixL rfl)) ea_nil) rl_int) (ea_cons (ev_cb (ea_cons (ev_op (ev_v rfl r2) ev_i (rv_ixL rfl)) ea_nil) rl_int) ea_nil)) rl_max2) (ea_cons (ev_cb (ea_cons (ev_cb (ea_cons (ev_op (ev_v rfl r1) ev_i (rv_ixL rfl)) ea_nil) rl_int) (ea_cons (ev_cb (ea_cons (ev_op (ev_v rfl r2) ev_i (rv_ixL rfl)) ea_nil) rl_int) ea_nil)) rl_min2) ea_nil)) fun v1 v2 B2 H2 n2 q1 q2 => ?_)
  cases q1; cases q2
  walk_at "u_m"
  exact s_retE n2.sub (ev_lst (ea_cons (ev_v rfl (.int _)) (ea_cons (ev_v rfl (.int _)) (ea_cons (ev_v rfl (.int _)) (ea_cons (ev_v rfl (.int _)) ea_nil)))) (by simp)) rfl fun v B3 H3 n3 rv => ret v B3 H3 ((n1.trans n2).trans n3) rv

def g__law_numbers (ds : List Dt) (d : Dt) : Prop := ∃ (bx : Bx) (p q : List Int) (mv : Int × Int), ds = [eBx bx, eSet p q, eFr mv.1 mv.2] ∧ CIn p bx.l ∧ CIn p bx.r ∧ CIn q bx.t ∧ CIn q bx.b ∧ d = ePt (numP p q mv bx)
theorem ok__law_numbers (T : Txt K mg fa fd) : FnG P w K mg base CX0 1 (fa 62) (fd 62) ["box_here", "values", "moved"] (spD g__law_numbers) := by
  refine fn_D T.d__law_numbers.F sc__law_numbers (fun ds d h => by obtain ⟨_, _, _, _, rfl, _⟩ := h; rfl) (fun cdv Γ below s B H vs ds d Q E hg hr e ra hd ret => ?_)
  obtain ⟨bx, p, q, mv, rfl, c1, c2, c3, c4, rfl⟩ := hd
  rcases ra with _ | ⟨r1, _ | ⟨r2, _ | ⟨r3, _ | _⟩⟩⟩
  have hu := hr.units
  refine ⟨_, (pss_cons (ps_set (i := 3) sc__law_numbers.nd rfl (by first | exact Or.inl rfl | exact Or.inr rfl) (pe_lst pa_nil)) (pss_cons (ps_for PassesOwn.never rfl (pi_range1 rfl T.n_range (pa_cons pe_int pa_nil)) (pg_name (i := 4) sc__law_numbers.nd rfl (by first | exact Or.inl rfl | exact Or.inr rfl)) (pss_cons (ps_asg (pe_ix (k_ix (K := K) rfl) (pv 0) (pv 4) (fun _ _ => rfl)) (pg_tup rfl (pgs_cons (pg_name (i := 5) sc__law_numbers.nd rfl (by first | exact Or.inl rfl | exact Or.inr rfl)) (pgs_cons (pg_name (i := 6) sc__law_numbers.nd rfl (by first | exact Or.inl rfl | exact Or.inr rfl)) pgs_nil)))) (pss_one (ps_expr (pe_bm PySem.F.plainAttrs_list PySem.F.slot_list_append PySem.F.type_list_append mt_append (pv 3) (pa_cons (pe_op op_addA (pe_op op_addA (pe_ix (k_ix (K := K) rfl) (pe_ix (k_ix (K := K) rfl) (pv 1) (pe_op op_fdiv (pv 4) pe_int) (fun _ _ => rfl)) (pv 5) (fun _ _ => rfl)) (pv 6)) (pe_ix (k_ix (K := K) rfl) (pv 2) (pe_op op_fdiv (pv 4) pe_int) (fun _ _ => rfl))) pa_nil)))))) (pss_one (ps_ret (pv 3))))), ?_⟩
  refine s_seq (s_new e fun f H1 hp bp eH u1 => ?_)
  subst eH
  walk_at "u_m"
  rename_i v1 v2 v3
  obtain ⟨nums, hnums⟩ : ∃ nums : List Int, nums = [cv p bx.l + mv.1, cv p bx.r + mv.1, cv q bx.t + mv.2, cv q bx.b + mv.2] := ⟨_, rfl⟩
  have o1 : Own H B (upd H f (.lst [])) f [] := ⟨hp, bp, upd_same⟩
  refine s_seq (s_forR (n := 4) u1.sub (ea_cons ev_i ea_nil) ⟨by decide, by decide⟩ (fun i σ' H' => ∃ B' acc w4 w5 w6, σ' = [some v1, some v2, some v3, some (.ref f), w4, w5, w6] ∧ New B H B' H' ∧ Own H B' H' f acc ∧ RA B' acc ((nums.take i).map .int)) ?_ ?_ ?_)
  · intro H2 u2
    exact ⟨B, [], _, _, _, rfl, u1.new.trans u2.new, o1.step u2.new, .nil⟩
  · rintro i σ' H' hi ⟨B', acc, w4, w5, w6, rfl, nB, oB, rB⟩
    walk_at "u_m"
    have key : ∀ (c : Cor) (ws : List Int) (m : Int), CIn ws c → atI [eCor bx.l, eCor bx.r, eCor bx.t, eCor bx.b] (i : Nat) = some (eCor c) → atI [eI p, eI q] ((i : Nat) / 2 : Int) = some (eI ws) → atI [Dt.int mv.1, Dt.int mv.2] ((i : Nat) / 2 : Int) = some (.int m) → nums.take (i + 1) = nums.take i ++ [cv ws c + m] →
        tSeq (tAsg (tOp (rIx K) (tVar 0) (tVar 4)) (gTup K 2 (gCons (gName 5) (gCons (gName 6) gNil)))) (tDrop (tBM K "list" rAppend (tVar 3) (tCons (tOp (rOr (rI0 fun i j => .int (i + j)) rCat) (tOp (rOr (rI0 fun i j => .int (i + j)) rCat) (tOp (rIx K) (tOp (rIx K) (tVar 1) (tOp (rI CDiv fun i j => .int (i / j)) (tVar 4) (tC (.int 2)))) (tVar 5)) (tVar 6)) (tOp (rIx K) (tVar 2) (tOp (rI CDiv fun i j => .int (i / j)) (tVar 4) (tC (.int 2))))) tNil)))
          { nx := fun σ' H' => ∃ B' acc w4 w5 w6, σ' = [some v1, some v2, some v3, some (.ref f), w4, w5, w6] ∧ New B H B' H' ∧ Own H B' H' f acc ∧ RA B' acc ((nums.take (i + 1)).map .int), ct := fun σ' H' => ∃ B' acc w4 w5 w6, σ' = [some v1, some v2, some v3, some (.ref f), w4, w5, w6] ∧ New B H B' H' ∧ Own H B' H' f acc ∧ RA B' acc ((nums.take (i + 1)).map .int), rt := Q } [some v1, some v2, some v3, some (.ref f), some (.int (i : Nat)), w5, w6] H' := by
      intro c ws m hc h1 h2 h3 h4
      have r1 := r1.mono nB.ext
      have r2 := r2.mono nB.ext
      have r3 := r3.mono nB.ext
      refine s_seq (s_asg2 (x := .int c.1) (y := .int c.2) nB.sub (ev_op (ev_v rfl r1) (ev_v rfl (.int _)) (rv_ixT h1)) fun a b B2 H2 n2 qa qb => ?_)
      cases qa; cases qb
      walk_at "u_m"
      have ci : atI (ws.map Dt.int) c.1 = some (.int (ws.getD c.1.toNat 0)) := by
        obtain ⟨g0, g1⟩ := hc
        have e1 : c.1 = ((c.1.toNat : Nat) : Int) := by omega
        conv => lhs; rw [e1]
        refine atI_nat' ?_
        have hl : c.1.toNat < ws.length := by omega
        rw [List.getElem?_map, List.getD_eq_getElem?_getD, List.getElem?_eq_getElem hl]
        rfl
      refine s_app n2.sub (oB.step n2) rfl (d := .int (cv ws c + m)) (ev_op (ev_op (ev_op (ev_op (ev_v rfl (r2.mono n2.ext)) (ev_op (ev_v rfl (.int _)) ev_i (rv_div ⟨by decide, by decide⟩)) (rv_ixT h2)) (ev_v rfl (.int _)) (rv_ixL ci)) (ev_v rfl (.int _)) (rv_inl rv_add)) (ev_op (ev_v rfl (r3.mono n2.ext)) (ev_op (ev_v rfl (.int _)) ev_i (rv_div ⟨by decide, by decide⟩)) (rv_ixT h3)) (rv_inl rv_add)) ?_ fun v B3 H3 n3 o3 r3' => ?_
      · rw [rB.len, List.length_map, List.length_take]; omega
      · refine ⟨B3, acc ++ [v], _, _, _, rfl, ((nB.trans n2).trans n3).put (u := .lst (acc ++ [v])) o3, o3.put, ?_⟩
        rw [h4, List.map_append]
        exact ((rB.mono n2.ext).mono n3.ext).append (RA.one r3')
    have hi4 : i = 0 ∨ i = 1 ∨ i = 2 ∨ i = 3 := by omega
    rcases hi4 with rfl | rfl | rfl | rfl
    · exact key bx.l p mv.1 c1 rfl rfl rfl (by rw [hnums]; rfl)
    · exact key bx.r p mv.1 c2 rfl rfl rfl (by rw [hnums]; rfl)
    · exact key bx.t q mv.2 c3 rfl rfl rfl (by rw [hnums]; rfl)
    · exact key bx.b q mv.2 c4 rfl rfl rfl (by rw [hnums]; rfl)
  · rintro σ' H' ⟨B', acc, w4, w5, w6, rfl, nB, oB, rB⟩
    walk_at "u_m"
    have e4 : nums.take (4 : Int).toNat = nums := by rw [hnums]; rfl
    rw [e4] at rB
    refine s_ret (d := ePt (numP p q mv bx)) (nB.give oB).sub (ev_v rfl ?_) fun v B4 H4 n4 rv => ret v B4 H4 ((nB.give oB).trans n4) rv
    have := oB.data rB
    rw [hnums] at this
    exact this

theorem cin_of {n : Int} {c : Cor} {vs : List Int} (h : CorOk n c) (hn : (vs.length : Int) = n) : CIn vs c := by
  obtain ⟨h1, h2, _⟩ := h
  exact ⟨h1, by omega⟩
theorem at_cor {vs : List Int} {c : Cor} (h : CIn vs c) : atI (vs.map Dt.int) c.1 = some (.int (vs.getD c.1.toNat 0)) := by
  obtain ⟨g0, g1⟩ := h
  have e1 : c.1 = ((c.1.toNat : Nat) : Int) := by omega
  conv => lhs; rw [e1]
  refine atI_nat' ?_
  have hl : c.1.toNat < vs.length := by omega
  rw [List.getElem?_map, List.getD_eq_getElem?_getD, List.getElem?_eq_getElem hl]
  rfl
theorem ePo_isN (cl : Option Pt) : isN (ePo cl) = cl.isNone := by cases cl <;> rfl
theorem layers_take {ss : List Sm} {i : Nat} {st : Sm} {p q : List Int} {mv : Int × Int} {cl : Option Pt} {num : Int} (h : ss[i]? = some st) : lyP p q (ss.take (i + 1)) mv cl num = lyP p q (ss.take i) mv cl num ++ lyS p q st mv cl (num + cntP (ss.take i)) ∧ cntP (ss.take (i + 1)) = cntP (ss.take i) + cntS st := by
  have e : ss.take (i + 1) = ss.take i ++ [st] := by rw [List.take_add_one, h]; rfl
  rw [e, lyP_append, cntP_append]
  refine ⟨?_, ?_⟩
  · congr 1
    rw [lyP, lyP, List.append_nil]
  · congr 1
theorem st__law_layers (T : Txt K mg fa fd) {n k : Nat} (hk : 1 ≤ k) (rec__law_layers : FnG P w K mg base CX0 k (fa 63) (fd 63) ["layout", "values", "moved", "clip", "found", "number"] (spLay n)) : FnG P w K mg base CX0 (k + 1) (fa 63) (fd 63) ["layout", "values", "moved", "clip", "found", "number"] (spLay (n + 1)) := by
  refine fn_S T.d__law_layers.F sc__law_layers (fun vs H Q E h => by obtain ⟨_, _, _, _, _, _, _, _, _, _, _, _, _, _, _, rfl, _⟩ := h; rfl) (fun cdv Γ below s H vs Q E hg hr h => ?_)
  obtain ⟨B, f, acc, w0, w1, w2, w3, a, b, ss, p, q, mv, cl, num, rfl, e, bf, hf, r0, r1, r2, r3, hok, hla, hlb, hsz, hac, ret⟩ := h
  have hu := hr.units
  refine ⟨_, (pss_cons (ps_for PassesOwn.never rfl (k_seq (K := K) rfl (pv 0)) (pg_name (i := 6) sc__law_layers.nd rfl (by first | exact Or.inl rfl | exact Or.inr rfl)) (pss_one (ps_if (pt_cmpR (k_eq (K := K) rfl hu) (pe_ix (k_ix (K := K) rfl) (pv 6) pe_int (fun _ _ => rfl)) pe_str (nomark _)) (pss_cons (ps_set (i := 7) sc__law_layers.nd rfl (by first | exact Or.inl rfl | exact Or.inr rfl) (pe_go (ok__law_numbers T) hg (hr.mono (by omega)) rfl T.d__law_numbers.at_ T.d__law_numbers.F.kp (bn__law_numbers T) pass0 (pa_cons (pe_ix (k_ix (K := K) rfl) (pv 6) pe_int (fun _ _ => rfl)) (pa_cons (pv 1) (pa_cons (pv 2) pa_nil))))) (pss_cons (ps_expr (pe_bm PySem.F.plainAttrs_list PySem.F.slot_list_append PySem.F.type_list_append mt_append (pv 4) (pa_cons (pe_lst (pa_cons (pe_ifExp (pt_cmpR op_isN (pv 3) pe_non (nomark _)) (pv 7) (pe_go (ok__law_inside T) hg (hr.mono (by omega)) rfl T.d__law_inside.at_ T.d__law_inside.F.kp (bn__law_inside T) pass0 (pa_cons (pv 7) (pa_cons (pv 3) pa_nil)))) (pa_cons (pe_ix (k_ix (K := K) rfl) (pv 6) pe_int (fun _ _ => rfl)) (pa_cons (pv 5) pa_nil)))) pa_nil))) (pss_one (ps_set (i := 5) sc__law_layers.nd rfl (by first | exact Or.inl rfl | exact Or.inr rfl) (pe_op op_addA (pv 5) pe_int))))) (pss_one (ps_if (pt_cmpR (k_eq (K := K) rfl hu) (pe_ix (k_ix (K := K) rfl) (pv 6) pe_int (fun _ _ => rfl)) pe_str (nomark _)) (pss_cons (ps_set (i := 7) sc__law_layers.nd rfl (by first | exact Or.inl rfl | exact Or.inr rfl) (pe_go (ok__law_numbers T) hg (hr.mono (by omega)) rfl T.d__law_numbers.at_ T.d__law_numbers.F.kp (bn__law_numbers T) pass0 (pa_cons (pe_ix (k_ix (K := K) rfl) (pv 6) pe_int (fun _ _ => rfl)) (pa_cons (pv 1) (pa_cons (pv 2) pa_nil))))) (pss_cons (ps_set (i := 7) sc__law_layers.nd rfl (by first | exact Or.inl rfl | exact Or.inr rfl) (pe_ifExp (pt_cmpR op_isN (pv 3) pe_non (nomark _)) (pv 7) (pe_go (ok__law_inside T) hg (hr.mono (by omega)) rfl T.d__law_inside.at_ T.d__law_inside.F.kp (bn__law_inside T) pass0 (pa_cons (pv 7) (pa_cons (pv 3) pa_nil))))) (pss_one (ps_set (i := 5) sc__law_layers.nd rfl (by first | exact Or.inl rfl | exact Or.inr rfl) (pe_go rec__law_layers hg (hr.mono (by omega)) rfl T.d__law_layers.at_ T.d__law_layers.F.kp (bn__law_layers T) pass0 (pa_cons (pe_ix (k_ix (K := K) rfl) (pv 6) pe_int (fun _ _ => rfl)) (pa_cons (pv 1) (pa_cons (pv 2) (pa_cons (pv 7) (pa_cons (pv 4) (pa_cons (pv 5) pa_nil))))))))))) (pss_one (ps_if (pt_cmpR (k_eq (K := K) rfl hu) (pe_ix (k_ix (K := K) rfl) (pv 6) pe_int (fun _ _ => rfl)) pe_str (nomark _)) (pss_cons (ps_set (i := 8) sc__law_layers.nd rfl (by first | exact Or.inl rfl | exact Or.inr rfl) (pe_tup (pa_cons (pe_op op_addA (pe_ix (k_ix (K := K) rfl) (pv 2) pe_int (fun _ _ => rfl)) (pe_ix (k_ix (K := K) rfl) (pv 6) pe_int (fun _ _ => rfl))) (pa_cons (pe_op op_addA (pe_ix (k_ix (K := K) rfl) (pv 2) pe_int (fun _ _ => rfl)) (pe_ix (k_ix (K := K) rfl) (pv 6) pe_int (fun _ _ => rfl))) pa_nil)))) (pss_one (ps_set (i := 5) sc__law_layers.nd rfl (by first | exact Or.inl rfl | exact Or.inr rfl) (pe_go rec__law_layers hg (hr.mono (by omega)) rfl T.d__law_layers.at_ T.d__law_layers.F.kp (bn__law_layers T) pass0 (pa_cons (pe_ix (k_ix (K := K) rfl) (pv 6) pe_int (fun _ _ => rfl)) (pa_cons (pv 1) (pa_cons (pv 8) (pa_cons (pv 3) (pa_cons (pv 4) (pa_cons (pv 5) pa_nil)))))))))) (pss_cons (ps_set (i := 9) sc__law_layers.nd rfl (by first | exact Or.inl rfl | exact Or.inr rfl) (pe_ix (k_ix (K := K) rfl) (pv 1) (pe_bm PySem.F.plainAttrs_str PySem.F.slot_str_index PySem.F.type_str_index k_sindex pe_str (pa_cons (pe_ix (k_ix (K := K) rfl) (pv 6) pe_int (fun _ _ => rfl)) pa_nil)) (fun _ _ => rfl))) (pss_cons (ps_set (i := 10) sc__law_layers.nd rfl (by first | exact Or.inl rfl | exact Or.inr rfl) (pe_cmpR op_lt (pe_op op_addA (pe_ix (k_ix (K := K) rfl) (pv 9) (pe_ix (k_ix (K := K) rfl) (pe_ix (k_ix (K := K) rfl) (pv 6) pe_int (fun _ _ => rfl)) pe_int (fun _ _ => rfl)) (fun _ _ => rfl)) (pe_ix (k_ix (K := K) rfl) (pe_ix (k_ix (K := K) rfl) (pv 6) pe_int (fun _ _ => rfl)) pe_int (fun _ _ => rfl))) (pe_op op_addA (pe_ix (k_ix (K := K) rfl) (pv 9) (pe_ix (k_ix (K := K) rfl) (pe_ix (k_ix (K := K) rfl) (pv 6) pe_int (fun _ _ => rfl)) pe_int (fun _ _ => rfl)) (fun _ _ => rfl)) (pe_ix (k_ix (K := K) rfl) (pe_ix (k_ix (K := K) rfl) (pv 6) pe_int (fun _ _ => rfl)) pe_int (fun _ _ => rfl))) (nomark _))) (pss_cons (ps_set (i := 11) sc__law_layers.nd rfl (by first | exact Or.inl rfl | exact Or.inr rfl) (pe_lst pa_nil)) (pss_cons (ps_set (i := 5) sc__law_layers.nd rfl (by first | exact Or.inl rfl | exact Or.inr rfl) (pe_go rec__law_layers hg (hr.mono (by omega)) rfl T.d__law_layers.at_ T.d__law_layers.F.kp (bn__law_layers T) pass0 (pa_cons (pe_ix (k_ix (K := K) rfl) (pv 6) pe_int (fun _ _ => rfl)) (pa_cons (pv 1) (pa_cons (pv 2) (pa_cons (pv 3) (pa_cons (pe_ifExp (pt_val (pv 10)) (pv 4) (pv 11)) (pa_cons (pv 5) pa_nil)))))))) (pss_one (ps_set (i := 5) sc__law_layers.nd rfl (by first | exact Or.inl rfl | exact Or.inr rfl) (pe_go rec__law_layers hg (hr.mono (by omega)) rfl T.d__law_layers.at_ T.d__law_layers.F.kp (bn__law_layers T) pass0 (pa_cons (pe_ix (k_ix (K := K) rfl) (pv 6) pe_int (fun _ _ => rfl)) (pa_cons (pv 1) (pa_cons (pv 2) (pa_cons (pv 3) (pa_cons (pe_ifExp (pt_val (pv 10)) (pv 11) (pv 4)) (pa_cons (pv 5) pa_nil)))))))))))))))))))) (pss_one (ps_ret (pv 5)))), ?_⟩
  rw [ePg_map] at r0
  have l0 : Lz (Zf f) B H B H acc := lz_start e (fun a ha => by rw [ha]; exact bf) hf
  refine s_seq (q_each (l := ss) (enc := eSt) e (ev_v rfl r0) (Items.tup _) (fun i σ' B' H' => ∃ vs' x6 x7 x8 x9 x10 x11, σ' = [some w0, some w1, some w2, some w3, some (.ref f), some (.int (num + cntP (ss.take i))), x6, x7, x8, x9, x10, x11] ∧ Lz (Zf f) B H B' H' (acc ++ vs') ∧ RA B' vs' ((lyP p q (ss.take i) mv cl num).map eLy)) ?_ ?_ ?_)
  · intro B1 H1 n1
    refine ⟨[], none, none, none, none, none, none, ?_, ?_, .nil⟩
    · rw [List.take_zero, cntP]
      simp only [Int.natCast_zero, Int.add_zero]
      rfl
    · rw [List.append_nil]; exact l0.new n1
  · rintro B1 i st v σ' B' H' hi rv e1 e2 ⟨vs', x6, x7, x8, x9, x10, x11, rfl, lB, rB⟩
    have hm := List.mem_of_getElem? hi
    have hst := hok st hm
    have hss := szP_le hm
    have rv := rv.mono e1
    obtain ⟨ht1, ht2⟩ := layers_take (p := p) (q := q) (mv := mv) (cl := cl) (num := num) hi
    have hvl : vs'.length ≤ szP (ss.take i) := by rw [rB.len, List.length_map]; exact lyP_len p q _ mv cl num
    have htk : szP (ss.take i) + szS st ≤ szP ss := by
      have h1 := szP_take ss (i + 1)
      have e3 : ss.take (i + 1) = ss.take i ++ [st] := by rw [List.take_add_one, hi]; rfl
      rw [e3, szP_append] at h1
      have h2 : szP [st] = szS st := by rw [szP, szP]; omega
      omega
    have r1' := r1.mono lB.n.ext
    have r2' := r2.mono lB.n.ext
    have r3' := r3.mono lB.n.ext
    have rv' := rv
    rw [eSt_eq] at rv'
    obtain ⟨m, hm'⟩ : ∃ m : Int, m = num + cntP (ss.take i) := ⟨_, rfl⟩
    rw [← hm'] at ht1 ⊢
    walk_at "u_m"
    -- the end of a turn
    have fin : ∀ (B3 : Hp) (H3 : Hp) (ws : List V) (z : Int) (y6 y7 y8 y9 y10 y11 : Option V), Ex B' B3 → Lz (Zf f) B H B3 H3 ((acc ++ vs') ++ ws) → RA B3 ws ((lyS p q st mv cl m).map eLy) → z = m + cntS st →
        ∃ B4, Ex B1 B4 ∧ Ex B4 H3 ∧ ∃ vs' x6 x7 x8 x9 x10 x11, ([some w0, some w1, some w2, some w3, some (.ref f), some (.int z), y6, y7, y8, y9, y10, y11] : L2.St) = [some w0, some w1, some w2, some w3, some (.ref f), some (.int (num + cntP (ss.take (i + 1)))), x6, x7, x8, x9, x10, x11] ∧ Lz (Zf f) B H B4 H3 (acc ++ vs') ∧ RA B4 vs' ((lyP p q (ss.take (i + 1)) mv cl num).map eLy) := by
      intro B3 H3 ws z y6 y7 y8 y9 y10 y11 e3 l3 ra hz
      refine ⟨B3, e1.trans e3, l3.e, vs' ++ ws, y6, y7, y8, y9, y10, y11, ?_, by rw [← List.append_assoc]; exact l3, ?_⟩
      · have hz' : z = num + cntP (ss.take (i + 1)) := by rw [hz, hm', ht2]; push_cast; omega
        rw [hz']
      · rw [ht1, List.map_append]
        exact (rB.mono e3).append ra
    cases st with
    | fill bx c =>
      obtain ⟨⟨k1, k2, k3, k4⟩, _⟩ := hst
      refine lz_if (b := true) lB ((ec_t (ev_op (ev_op (ev_v rfl rv') ev_i (rv_ixT (atI_nat' (m := 0) rfl))) ev_s (rv_inl rv_eqS))).is (by walk_at "wdk")) (fun _ H2 l2 => ?_) (fun z => nomatch z)
      refine s_seq (lz_asg l2 (ev_call (ea_cons (ev_op (ev_v rfl rv') ev_i (rv_ixT rfl)) (ea_cons (ev_v rfl r1') (ea_cons (ev_v rfl r2') ea_nil))) ⟨bx, p, q, mv, rfl, cin_of k1 hla, cin_of k2 hla, cin_of k3 hlb, cin_of k4 hlb, rfl⟩) fun v7 B3 H3 x3 l3 r7 => ?_)
      walk_at "u_m"
      have r3a := r3'.mono x3
      have rva := rv'.mono x3
      refine s_seq (lz_app l3 rfl (d := eLy ⟨inO cl (numP p q mv bx), c, m⟩) (ev_lst (ea_cons (ev_if (b := cl.isNone) ((ec_t (ev_op (ev_v rfl r3a) ev_n rv_isN)).is (ePo_isN cl)) (fun hb => ?_) (fun hb => ?_)) (ea_cons (ev_op (ev_v rfl rva) ev_i (rv_ixT rfl)) (ea_cons (ev_v rfl (.int _)) ea_nil))) (by simp)) ?_ fun v8 B4 H4 x4 l4 r8 => ?_)
      · cases cl with
        | none => exact ev_v rfl r7
        | some c' => cases hb
      · cases cl with
        | none => cases hb
        | some c' => exact ev_call (ea_cons (ev_v rfl r7) (ea_cons (ev_v rfl r3a) ea_nil)) ⟨_, c', rfl, rfl⟩
      · rw [List.length_append]; omega
      walk_at "u_m"
      refine lz_asg l4 (ev_op (ev_v rfl (.int _)) ev_i (rv_inl rv_add)) fun v9 B5 H5 x5 l5 r9 => ?_
      cases r9
      dsimp only [List.set_cons_succ, List.set_cons_zero]
      exact fin B5 H5 [v8] _ _ _ _ _ _ _ ((x3.trans x4).trans x5) l5 (by rw [lyS]; exact RA.one (r8.mono x5)) (by rw [cntS]; rfl)
    | clip bx ts =>
      obtain ⟨⟨k1, k2, k3, k4⟩, kq⟩ := hst
      rw [szS] at htk
      refine lz_if (b := false) lB ((ec_t (ev_op (ev_op (ev_v rfl rv') ev_i (rv_ixT (atI_nat' (m := 0) rfl))) ev_s (rv_inl rv_eqS))).is (by walk_at "wdk")) (fun z => nomatch z) (fun _ H2 l2 => ?_)
      refine lz_if (b := true) l2 ((ec_t (ev_op (ev_op (ev_v rfl rv') ev_i (rv_ixT (atI_nat' (m := 0) rfl))) ev_s (rv_inl rv_eqS))).is (by walk_at "wdk")) (fun _ H2 l2 => ?_) (fun z => nomatch z)
      refine s_seq (lz_asg l2 (ev_call (ea_cons (ev_op (ev_v rfl rv') ev_i (rv_ixT rfl)) (ea_cons (ev_v rfl r1') (ea_cons (ev_v rfl r2') ea_nil))) ⟨bx, p, q, mv, rfl, cin_of k1 hla, cin_of k2 hla, cin_of k3 hlb, cin_of k4 hlb, rfl⟩) fun v7 B3 H3 x3 l3 r7 => ?_)
      walk_at "u_m"
      have r3a := r3'.mono x3
      have rva := rv'.mono x3
      refine s_seq (lz_asg (d := ePt (inO cl (numP p q mv bx))) l3 (ev_if (b := cl.isNone) ((ec_t (ev_op (ev_v rfl r3a) ev_n rv_isN)).is (ePo_isN cl)) (fun hb => ?_) (fun hb => ?_)) fun v8 B4 H4 x4 l4 r8 => ?_)
      · cases cl with
        | none => exact ev_v rfl r7
        | some c' => cases hb
      · cases cl with
        | none => cases hb
        | some c' => exact ev_call (ea_cons (ev_v rfl r7) (ea_cons (ev_v rfl r3a) ea_nil)) ⟨_, c', rfl, rfl⟩
      walk_at "u_m"
      have xx := x3.trans x4
      refine (show tCall (spLay n) _ _ _ _ _ _ from lay_go (ss := ts) (p := p) (q := q) (mv := mv) (cl := some (inO cl (numP p q mv bx))) (num := m) l4.e (l4.o f rfl) l4.s (ev_op (ev_v rfl (rv'.mono xx)) ev_i (rv_ixT rfl)) (ev_v rfl (r1'.mono xx)) (ev_v rfl (r2'.mono xx)) (ev_v rfl r8) (gives_v rfl) (ev_v rfl (.int _)) kq hla hlb (by omega) (by rw [List.length_append]; omega) fun B5 H5 ws n5 h5 ra5 => ?_)
      have l5 := l4.newG (j := (acc ++ vs') ++ ws) n5 h5
      dsimp only [List.set_cons_succ, List.set_cons_zero]
      exact fin B5 H5 ws _ _ _ _ _ _ _ (xx.trans n5.ext) l5 (by rw [lyS]; exact ra5) (by rw [cntS])
    | move dx dy ts =>
      obtain ⟨_, _, _, _, kq⟩ := hst
      rw [szS] at htk
      refine lz_if (b := false) lB ((ec_t (ev_op (ev_op (ev_v rfl rv') ev_i (rv_ixT (atI_nat' (m := 0) rfl))) ev_s (rv_inl rv_eqS))).is (by walk_at "wdk")) (fun z => nomatch z) (fun _ H2 l2 => ?_)
      refine lz_if (b := false) l2 ((ec_t (ev_op (ev_op (ev_v rfl rv') ev_i (rv_ixT (atI_nat' (m := 0) rfl))) ev_s (rv_inl rv_eqS))).is (by walk_at "wdk")) (fun z => nomatch z) (fun _ H2 l2 => ?_)
      refine lz_if (b := true) l2 ((ec_t (ev_op (ev_op (ev_v rfl rv') ev_i (rv_ixT (atI_nat' (m := 0) rfl))) ev_s (rv_inl rv_eqS))).is (by walk_at "wdk")) (fun _ H2 l2 => ?_) (fun z => nomatch z)
      refine s_seq (lz_asg (d := eFr (mv.1 + dx) (mv.2 + dy)) l2 (ev_tup (ea_cons (ev_op (ev_op (ev_v rfl r2') ev_i (rv_ixT rfl)) (ev_op (ev_v rfl rv') ev_i (rv_ixT rfl)) (rv_inl rv_add)) (ea_cons (ev_op (ev_op (ev_v rfl r2') ev_i (rv_ixT rfl)) (ev_op (ev_v rfl rv') ev_i (rv_ixT rfl)) (rv_inl rv_add)) ea_nil)) (by simp)) fun v8 B4 H4 x4 l4 r8 => ?_)
      walk_at "u_m"
      refine (show tCall (spLay n) _ _ _ _ _ _ from lay_go (ss := ts) (p := p) (q := q) (mv := (mv.1 + dx, mv.2 + dy)) (cl := cl) (num := m) l4.e (l4.o f rfl) l4.s (ev_op (ev_v rfl (rv'.mono x4)) ev_i (rv_ixT rfl)) (ev_v rfl (r1'.mono x4)) (ev_v rfl r8) (ev_v rfl (r3'.mono x4)) (gives_v rfl) (ev_v rfl (.int _)) kq hla hlb (by omega) (by rw [List.length_append]; omega) fun B5 H5 ws n5 h5 ra5 => ?_)
      have l5 := l4.newG (j := (acc ++ vs') ++ ws) n5 h5
      dsimp only [List.set_cons_succ, List.set_cons_zero]
      exact fin B5 H5 ws _ _ _ _ _ _ _ (x4.trans n5.ext) l5 (by rw [lyS]; exact ra5) (by rw [cntS])
    | iff ax c c2 ta tb =>
      obtain ⟨k1, k2, kq, kq2⟩ := hst
      rw [szS] at htk
      refine lz_if (b := false) lB ((ec_t (ev_op (ev_op (ev_v rfl rv') ev_i (rv_ixT (atI_nat' (m := 0) rfl))) ev_s (rv_inl rv_eqS))).is (by walk_at "wdk")) (fun z => nomatch z) (fun _ H2 l2 => ?_)
      refine lz_if (b := false) l2 ((ec_t (ev_op (ev_op (ev_v rfl rv') ev_i (rv_ixT (atI_nat' (m := 0) rfl))) ev_s (rv_inl rv_eqS))).is (by walk_at "wdk")) (fun z => nomatch z) (fun _ H2 l2 => ?_)
      refine lz_if (b := false) l2 ((ec_t (ev_op (ev_op (ev_v rfl rv') ev_i (rv_ixT (atI_nat' (m := 0) rfl))) ev_s (rv_inl rv_eqS))).is (by walk_at "wdk")) (fun z => nomatch z) (fun _ H2 l2 => ?_)
      have hax : atI [eI p, eI q] ((if ax = true then 0 else 1 : Nat) : Int) = some (eI (if ax = true then p else q)) := by cases ax <;> rfl
      refine s_seq (lz_asg (d := eI (if ax = true then p else q)) l2 (ev_op (ev_v rfl r1') (ev_xyIdx (ev_op (ev_v rfl rv') ev_i (rv_ixT rfl))) (rv_ixT hax)) fun v9 B3 H3 x3 l3 r9 => ?_)
      walk_at "u_m"
      have ci1 : CIn (if ax = true then p else q) c := by cases ax with | true => exact cin_of k1 hla | false => exact cin_of k1 hlb
      have ci2 : CIn (if ax = true then p else q) c2 := by cases ax with | true => exact cin_of k2 hla | false => exact cin_of k2 hlb
      obtain ⟨ln, hln⟩ : ∃ ln : List Int, ln = if ax = true then p else q := ⟨_, rfl⟩
      rw [← hln] at r9 ci1 ci2
      have rva := rv'.mono x3
      refine s_seq (lz_asg (d := .bl (decide (cv ln c < cv ln c2))) l3 (ev_op (ev_op (ev_op (ev_v rfl r9) (ev_op (ev_op (ev_v rfl rva) ev_i (rv_ixT rfl)) ev_i (rv_ixT rfl)) (rv_ixL (at_cor ci1))) (ev_op (ev_op (ev_v rfl rva) ev_i (rv_ixT rfl)) ev_i (rv_ixT rfl)) (rv_inl rv_add)) (ev_op (ev_op (ev_v rfl r9) (ev_op (ev_op (ev_v rfl rva) ev_i (rv_ixT rfl)) ev_i (rv_ixT rfl)) (rv_ixL (at_cor ci2))) (ev_op (ev_op (ev_v rfl rva) ev_i (rv_ixT rfl)) ev_i (rv_ixT rfl)) (rv_inl rv_add)) rv_lt) fun v10 B4 H4 x4 l4 r10 => ?_)
      cases r10
      walk_at "u_m"
      refine s_seq (lz_new l4 fun g H5 g0 gb gf hg5 l5 => ?_)
      walk_at "u_m"
      have xx := x3.trans x4
      have h4a : (lyS p q (.iff ax c c2 ta tb) mv cl m) = if decide (cv ln c < cv ln c2) = true then lyP p q ta mv cl m else lyP p q tb mv cl (m + cntP ta) := by
        rw [lyS, ← hln]
        by_cases hlt : cv ln c < cv ln c2
        · rw [if_pos hlt, if_pos (decide_eq_true hlt)]
        · rw [if_neg hlt, if_neg (by simpa using hlt)]
      have fin2 := fin
      rw [h4a] at fin2
      cases hcf : decide (cv ln c < cv ln c2) with
      | true =>
        rw [hcf, if_pos rfl] at fin2
        refine s_seq (show tCall (spLay n) _ _ _ _ _ _ from lay_go (f := f) (ss := ta) (p := p) (q := q) (mv := mv) (cl := cl) (num := m) l5.e (l5.o f rfl) l5.s (ev_op (ev_v rfl (rv'.mono xx)) ev_i (rv_ixT rfl)) (ev_v rfl (r1'.mono xx)) (ev_v rfl (r2'.mono xx)) (ev_v rfl (r3'.mono xx)) (gives_if (c := true) (ec_v (ev_v rfl (.bl _))) (fun _ => rfl) (fun z => nomatch z)) (ev_v rfl (.int _)) kq hla hlb (by omega) (by rw [List.length_append]; omega) fun B6 H6 ws n6 h6 ra6 => ?_)
        have l6 := l5.newG (j := (acc ++ vs') ++ ws) n6 h6
        walk_at "u_m"
        have xy := xx.trans n6.ext
        have gb6 : B6 g = none := n6.fresh g gb (by rw [hg5]; exact fun z => nomatch z)
        have hg6 : H6 g = some (.lst []) := n6.heap g _ (fun (z : g = f) => gf z) hg5
        refine (show tCall (spLay n) _ _ _ _ _ _ from lay_go (f := g) (ss := tb) (p := p) (q := q) (mv := mv) (cl := cl) (num := m + cntP ta) l6.e gb6 hg6 (ev_op (ev_v rfl (rv'.mono xy)) ev_i (rv_ixT rfl)) (ev_v rfl (r1'.mono xy)) (ev_v rfl (r2'.mono xy)) (ev_v rfl (r3'.mono xy)) (gives_if (c := true) (ec_v (ev_v rfl (.bl _))) (fun _ => rfl) (fun z => nomatch z)) (ev_v rfl (.int _)) kq2 hla hlb (by omega) (by rw [List.length_nil]; omega) fun B7 H7 us n7 h7 ra7 => ?_)
        have l7 := l6.side g0 gf n7
        dsimp only [List.set_cons_succ, List.set_cons_zero]
        exact fin2 B7 H7 ws _ _ _ _ _ _ _ (xy.trans n7.ext) l7 (ra6.mono n7.ext) (by rw [cntS]; push_cast; omega)
      | false =>
        rw [hcf, if_neg (by decide)] at fin2
        refine s_seq (show tCall (spLay n) _ _ _ _ _ _ from lay_go (f := g) (ss := ta) (p := p) (q := q) (mv := mv) (cl := cl) (num := m) l5.e gb hg5 (ev_op (ev_v rfl (rv'.mono xx)) ev_i (rv_ixT rfl)) (ev_v rfl (r1'.mono xx)) (ev_v rfl (r2'.mono xx)) (ev_v rfl (r3'.mono xx)) (gives_if (c := false) (ec_v (ev_v rfl (.bl _))) (fun z => nomatch z) (fun _ => rfl)) (ev_v rfl (.int _)) kq hla hlb (by omega) (by rw [List.length_nil]; omega) fun B6 H6 us n6 h6 ra6 => ?_)
        have l6 := l5.side g0 gf n6
        walk_at "u_m"
        have xy := xx.trans n6.ext
        refine (show tCall (spLay n) _ _ _ _ _ _ from lay_go (f := f) (ss := tb) (p := p) (q := q) (mv := mv) (cl := cl) (num := m + cntP ta) l6.e (l6.o f rfl) l6.s (ev_op (ev_v rfl (rv'.mono xy)) ev_i (rv_ixT rfl)) (ev_v rfl (r1'.mono xy)) (ev_v rfl (r2'.mono xy)) (ev_v rfl (r3'.mono xy)) (gives_if (c := false) (ec_v (ev_v rfl (.bl _))) (fun z => nomatch z) (fun _ => rfl)) (ev_v rfl (.int _)) kq2 hla hlb (by omega) (by rw [List.length_append]; omega) fun B7 H7 ws n7 h7 ra7 => ?_)
        have l7 := l6.newG (j := (acc ++ vs') ++ ws) n7 h7
        dsimp only [List.set_cons_succ, List.set_cons_zero]
        exact fin2 B7 H7 ws _ _ _ _ _ _ _ (xy.trans n7.ext) l7 ra7 (by rw [cntS]; push_cast; omega)
  · rintro σ' B' H' e' ⟨vs', x6, x7, x8, x9, x10, x11, rfl, lB, rB⟩
    walk_at "u_m"
    rw [List.take_length] at rB
    refine ⟨_, rfl, ?_⟩
    have := ret B' H' vs' lB.n lB.s rB
    rw [List.take_length]
    exact this
theorem ok__law_layers_n (T : Txt K mg fa fd) : ∀ n : Nat, FnG P w K mg base CX0 (2 + 2 * n) (fa 63) (fd 63) ["layout", "values", "moved", "clip", "found", "number"] (spLay n)
  | 0 => ⟨fun vs H Q E z => by obtain ⟨_, _, _, _, _, _, _, _, _, _, _, _, _, _, _, rfl, _⟩ := z; rfl, fun Γ _ _ below st H _ given us as _ _ Q E z => by obtain ⟨_, _, _, _, _, _, _, _, _, _, _, _, _, _, _, _, _, _, _, _, _, _, _, h, _⟩ := z; exact h.elim⟩
  | n + 1 => (st__law_layers T (k := 2 + 2 * n) (by omega) (ok__law_layers_n T n)).up (by omega)
theorem ok__law_layers (T : Txt K mg fa fd) : FnG P w K mg base CX0 19 (fa 63) (fd 63) ["layout", "values", "moved", "clip", "found", "number"] (spLay 8) := (ok__law_layers_n T 8).up (by decide)

def inPt (x y : Int) (pt : Pt) : Bool := (decide (pt.l ≤ x) && decide (x < pt.r)) && (decide (pt.t ≤ y) && decide (y < pt.b))
def topL (ls : List Ly) (x y : Int) : Option Ly := (ls.filter fun l => inPt x y l.pt).getLast?
def topD (ls : List Ly) (x y : Int) : Dt := match topL ls x y with
  | none => .lst [.int 0, .non]
  | some l => .lst [.int l.c, .int l.n]
theorem topL_snoc {ls : List Ly} {l : Ly} {x y : Int} : topL (ls ++ [l]) x y = if inPt x y l.pt = true then some l else topL ls x y := by
  unfold topL
  rw [List.filter_append]
  by_cases h : inPt x y l.pt = true
  · rw [if_pos h, List.filter_cons, if_pos h, List.filter_nil, List.getLast?_append]
    rfl
  · rw [if_neg h, List.filter_cons, if_neg h, List.filter_nil, List.append_nil]
def g__law_top (ds : List Dt) (d : Dt) : Prop := ∃ (ls : List Ly) (x y : Int), ds = [.lst (ls.map eLy), .int x, .int y] ∧ d = topD ls x y
theorem ok__law_top (T : Txt K mg fa fd) : FnG P w K mg base CX0 1 (fa 64) (fd 64) ["layers", "x", "y"] (spD g__law_top) := by
  refine fn_D T.d__law_top.F sc__law_top (fun ds d h => by obtain ⟨_, _, _, rfl, _⟩ := h; rfl) (fun cdv Γ below s B H vs ds d Q E hg hr e ra hd ret => ?_)
  obtain ⟨ls, x, y, rfl, rfl⟩ := hd
  rcases ra with _ | ⟨r1, _ | ⟨r2, _ | ⟨r3, _ | _⟩⟩⟩
  cases r2; cases r3
  have hu := hr.units
  rename_i v1
  refine ⟨_, (pss_cons (ps_set (i := 3) sc__law_top.nd rfl (by first | exact Or.inl rfl | exact Or.inr rfl) (pe_lst (pa_cons pe_int (pa_cons pe_non pa_nil)))) (pss_cons (ps_for PassesOwn.never rfl (k_seq (K := K) rfl (pv 0)) (pg_lst rfl (pgs_cons (pg_name (i := 4) sc__law_top.nd rfl (by first | exact Or.inl rfl | exact Or.inr rfl)) (pgs_cons (pg_name (i := 5) sc__law_top.nd rfl (by first | exact Or.inl rfl | exact Or.inr rfl)) (pgs_cons (pg_name (i := 6) sc__law_top.nd rfl (by first | exact Or.inl rfl | exact Or.inr rfl)) pgs_nil)))) (pss_one (ps_if (PW.pt (pw_and (pt_chain op_le op_lt (pe_ix (k_ix (K := K) rfl) (pv 4) pe_int (fun _ _ => rfl)) (pv 1) (pe_ix (k_ix (K := K) rfl) (pv 4) pe_int (fun _ _ => rfl))) (pw_and1 (pt_chain op_le op_lt (pe_ix (k_ix (K := K) rfl) (pv 4) pe_int (fun _ _ => rfl)) (pv 2) (pe_ix (k_ix (K := K) rfl) (pv 4) pe_int (fun _ _ => rfl)))))) (pss_one (ps_set (i := 3) sc__law_top.nd rfl (by first | exact Or.inl rfl | exact Or.inr rfl) (pe_lst (pa_cons (pv 5) (pa_cons (pv 6) pa_nil))))) pss_nil))) (pss_one (ps_ret (pv 3))))), ?_⟩
  refine s_seq (s_asg (d := topD [] x y) e (ev_lst (ea_cons ev_i (ea_cons ev_n ea_nil)) (by simp)) fun v B1 H1 n1 rv => ?_)
  walk_at "u_m"
  refine s_seq (q_each (l := ls) (enc := eLy) n1.sub (ev_v rfl (r1.mono n1.ext)) (Items.lst _) (fun i σ' B' H' => ∃ v3 w4 w5 w6, σ' = [some v1, some (.int x), some (.int y), some v3, w4, w5, w6] ∧ New B H B' H' ∧ R B' v3 (topD (ls.take i) x y)) ?_ ?_ ?_)
  · intro B2 H2 n2
    exact ⟨_, _, _, _, rfl, n1.trans n2, rv.mono n2.ext⟩
  · rintro B2 i ly v2 σ' B' H' hi rv2 e1 e2 ⟨v3, w4, w5, w6, rfl, nB, r3⟩
    refine g_lstR e2 (rv2.mono e1) rfl fun us ra => g_consN ra fun x1 _ q1 ra => g_consN ra fun x2 _ q2 ra => g_consN ra fun x3 _ q3 ra => g_nilR ra ?_
    cases q2; cases q3
    walk_at "u_m"
    unfold ePt at q1
    refine s_if (b := inPt x y ly.pt) e2 (ec_and (ec_t (ev_chain (ev_op (ev_v rfl q1) ev_i (rv_ixL rfl)) (ev_v rfl (.int _)) rv_le (fun _ => ev_op (ev_v rfl q1) ev_i (rv_ixL rfl)) (fun _ => rv_lt))) fun _ => ec_t (ev_chain (ev_op (ev_v rfl q1) ev_i (rv_ixL rfl)) (ev_v rfl (.int _)) rv_le (fun _ => ev_op (ev_v rfl q1) ev_i (rv_ixL rfl)) (fun _ => rv_lt))) (fun hb H3 u3 => ?_) (fun hb H3 u3 => ?_)
    · refine s_asg (d := .lst [.int ly.c, .int ly.n]) u3.sub (ev_lst (ea_cons (ev_v rfl (.int _)) (ea_cons (ev_v rfl (.int _)) ea_nil)) (by simp)) fun v B4 H4 n4 rv4 => ?_
      refine ⟨B4, e1.trans n4.ext, n4.sub, v, _, _, _, rfl, (nB.trans u3.new).trans n4, ?_⟩
      have ht : ls.take (i + 1) = ls.take i ++ [ly] := by rw [List.take_add_one, hi]; rfl
      rw [ht]
      unfold topD
      rw [topL_snoc, if_pos hb]
      exact rv4
    · refine ⟨B', e1, u3.sub, v3, _, _, _, rfl, nB.trans u3.new, ?_⟩
      have ht : ls.take (i + 1) = ls.take i ++ [ly] := by rw [List.take_add_one, hi]; rfl
      rw [ht]
      unfold topD
      rw [topL_snoc, if_neg (by rw [hb]; decide)]
      exact r3
  · rintro σ' B' H' e' ⟨v3, w4, w5, w6, rfl, nB, r3⟩
    walk_at "u_m"
    rw [List.take_length] at r3
    exact s_ret e' (ev_v rfl r3) fun v B4 H4 n4 rv => ret v B4 H4 (nB.trans n4) rv

def laid (ss : List Sm) (p q : List Int) : List Ly := lyP p q ss (0, 0) none 0
def g__law_laid (ds : List Dt) (d : Dt) : Prop := ∃ (a b : Int) (ss : List Sm) (p q : List Int), ds = [.tup (ePg ss), eSet p q] ∧ okP a b 8 ss ∧ (p.length : Int) = a ∧ (q.length : Int) = b ∧ szP ss ≤ 1000 ∧ d = .lst ((laid ss p q).map eLy)
theorem ok__law_laid (T : Txt K mg fa fd) : FnG P w K mg base CX0 20 (fa 65) (fd 65) ["layout", "values"] (spD g__law_laid) := by
  refine fn_D T.d__law_laid.F sc__law_laid (fun ds d h => by obtain ⟨_, _, _, _, _, rfl, _⟩ := h; rfl) (fun cdv Γ below s B H vs ds d Q E hg hr e ra hd ret => ?_)
  obtain ⟨a, b, ss, p, q, rfl, hok, ha, hb, hsz, rfl⟩ := hd
  rcases ra with _ | ⟨r1, _ | ⟨r2, _ | _⟩⟩
  refine ⟨_, (pss_cons (ps_set (i := 2) sc__law_laid.nd rfl (by first | exact Or.inl rfl | exact Or.inr rfl) (pe_lst pa_nil)) (pss_cons (ps_expr (pe_go (ok__law_layers T) hg (hr.mono (by decide)) rfl T.d__law_layers.at_ T.d__law_layers.F.kp (bn__law_layers T) pass0 (pa_cons (pv 0) (pa_cons (pv 1) (pa_cons (pe_tup (pa_cons pe_int (pa_cons pe_int pa_nil))) (pa_cons pe_non (pa_cons (pv 2) (pa_cons pe_int pa_nil)))))))) (pss_one (ps_ret (pv 2))))), ?_⟩
  refine s_seq (s_new e fun f H1 hp bp eH u1 => ?_)
  subst eH
  walk_at "u_m"
  refine s_seq (show tDrop (tCall (spLay 8) _ _ _) _ _ _ from lay_go (f := f) (acc := []) (ss := ss) (p := p) (q := q) (mv := (0, 0)) (cl := none) (num := 0) u1.sub bp upd_same (ev_v rfl r1) (ev_v rfl r2) (ev_tup (ea_cons ev_i (ea_cons ev_i ea_nil)) (by simp)) ev_n (gives_v rfl) ev_i hok ha hb hsz (by simp <;> omega) fun B1 H1 vs' n1 h1 ra1 => ?_)
  walk_at "u_m"
  rw [List.nil_append] at h1
  have nB := newF_new n1 hp
  have oB : Own H B1 H1 f vs' := ⟨hp, n1.fresh f bp (by rw [upd_same]; exact fun z => nomatch z), h1⟩
  exact s_ret (d := .lst ((laid ss p q).map eLy)) (nB.give oB).sub (ev_v rfl (oB.data ra1)) fun v B4 H4 n4 rv => ret v B4 H4 ((nB.give oB).trans n4) rv

def tcol (ls : List Ly) (x y : Int) : Int := match topL ls x y with
  | none => 0
  | some l => l.c
def celM (F : List Int) (t : Int → Int → Int) : List (List Int) := F.map fun y => F.map fun x => t x y
def strM (n : Nat) (M : List (List Int)) : List (List Int) := (List.range n).map fun i => M.map fun row => row.getD i 0
def chg (n : Nat) (M : List (List Int)) : List Nat := (List.range (n - 1)).filter fun i => !decide (M.getD i [] = M.getD (i + 1) [])
def farL2 (lo hi : Int) : List Int := (List.range (hi + 1 - (lo - 1)).toNat).map fun i : Nat => lo - 1 + (i : Int)
def cellC (F : List Int) (t : Int → Int → Int) : List Int := (chg F.length (strM F.length (celM F t))).map fun i => F.getD (i + 1) 0
def cellR (F : List Int) (t : Int → Int → Int) : List Int := (chg F.length (celM F t)).map fun i => F.getD (i + 1) 0
def cellG (F : List Int) (t : Int → Int → Int) : List (List Int) := (chg F.length (celM F t)).dropLast.map fun h => (chg F.length (strM F.length (celM F t))).dropLast.map fun a => ((celM F t).getD (h + 1) []).getD (a + 1) 0
def g__law_picture (ds : List Dt) (d : Dt) : Prop := ∃ (ls : List Ly) (lo hi : Int), ds = [.lst (ls.map eLy), .int lo, .int hi] ∧ -1000 ≤ lo ∧ lo ≤ hi ∧ hi ≤ 1000 ∧ d = dPic (cellC (farL2 lo hi) (tcol ls)) (cellR (farL2 lo hi) (tcol ls)) (cellG (farL2 lo hi) (tcol ls))
theorem at_ints2 {l : List Int} {i : Nat} (h : i < l.length) : atI (l.map Dt.int) (i : Int) = some (.int (l.getD i 0)) := by
  refine atI_nat' ?_
  rw [List.getElem?_map, List.getD_eq_getElem?_getD, List.getElem?_eq_getElem h]
  rfl
theorem at_rows2 {M : List (List Int)} {i : Nat} (h : i < M.length) : atI (M.map eI) (i : Int) = some (eI (M.getD i [])) := by
  refine atI_nat' ?_
  rw [List.getElem?_map, List.getD_eq_getElem?_getD, List.getElem?_eq_getElem h]
  rfl
theorem celM_len (F : List Int) (t : Int → Int → Int) : (celM F t).length = F.length := List.length_map ..
theorem celM_row {F : List Int} {t : Int → Int → Int} : ∀ r ∈ celM F t, r.length = F.length := fun r hr => by
  obtain ⟨y, _, rfl⟩ := List.mem_map.mp hr
  exact List.length_map ..
theorem celM_get {F : List Int} {t : Int → Int → Int} {i : Nat} (h : i < F.length) : ((celM F t).getD i []).length = F.length := by
  refine celM_row (t := t) _ ?_
  rw [List.getD_eq_getElem?_getD, List.getElem?_eq_getElem (by rw [celM_len]; exact h)]
  exact List.getElem_mem _
theorem strM_len (n : Nat) (M : List (List Int)) : (strM n M).length = n := by unfold strM; rw [List.length_map, List.length_range]
theorem chg_lt {n : Nat} {M : List (List Int)} {i : Nat} (h : i ∈ chg n M) : i + 1 < n := by
  have := List.mem_range.mp (List.mem_filter.mp h).1
  omega
theorem chg_len (n : Nat) (M : List (List Int)) : (chg n M).length ≤ n := Nat.le_trans (List.length_filter_le _ _) (by rw [List.length_range]; omega)
theorem ok__law_picture (T : Txt K mg fa fd) : FnG P w K mg base CX0 2 (fa 66) (fd 66) ["layers", "low", "high"] (spD g__law_picture) := by
  refine fn_D T.d__law_picture.F sc__law_picture (fun ds d h => by obtain ⟨_, _, _, rfl, _⟩ := h; rfl) (fun cdv Γ below s B H vs ds d Q E hg hr e ra hd ret => ?_)
  obtain ⟨ls, lo, hi, rfl, b1, b2, b3, rfl⟩ := hd
  rcases ra with _ | ⟨r1, _ | ⟨r2, _ | ⟨r3, _ | _⟩⟩⟩
  cases r2; cases r3
  have hu := hr.units
  refine ⟨_, (pss_cons (ps_set (i := 3) sc__law_picture.nd rfl (by first | exact Or.inl rfl | exact Or.inr rfl) (pe_listRg rfl rfl T.n_list (prg_2 rfl T.n_range (pe_op op_sub (pv 1) pe_int) (pe_op op_addA (pv 2) pe_int)))) (pss_cons (ps_set (i := 4) sc__law_picture.nd rfl (by first | exact Or.inl rfl | exact Or.inr rfl) (pe_lc (own := [("y", 6)]) (g := (gName 6)) (tt := tYes) rfl sc__law_picture.nd (k_seq (K := K) rfl (pv 3)) (blkOk_by (N := ["layers", "low", "high", "far", "rows", "x", "y", "strips", "row", "at", "columns", "lines", "kept", "here"]) (sc := defScope s__law_picture) (by decide +kernel)) (fun _ _ _ _ _ => (pg_name (i := 6) sc__law_picture.nd rfl (by first | exact Or.inl rfl | exact Or.inr rfl))) (fun _ _ _ _ _ => pts_nil) (fun _ _ _ _ _ => (pe_lc (own := [("x", 5)]) (g := (gName 5)) (tt := tYes) rfl sc__law_picture.nd (k_seq (K := K) rfl (pv 3)) (blkOk_by (by kernel_rfl)) (fun _ _ _ _ _ => (pg_name (i := 5) sc__law_picture.nd rfl (by first | exact Or.inl rfl | exact Or.inr rfl))) (fun _ _ _ _ _ => pts_nil) (fun _ _ _ _ _ => (pe_ix (k_ix (K := K) rfl) (pe_go (ok__law_top T) hg (hr.mono (by decide)) rfl T.d__law_top.at_ T.d__law_top.F.kp (bn__law_top T) pass0 (pa_cons (pv 0) (pa_cons (pv 5) (pa_cons (pv 6) pa_nil)))) pe_int (fun _ _ => rfl))))))) (pss_cons (ps_set (i := 7) sc__law_picture.nd rfl (by first | exact Or.inl rfl | exact Or.inr rfl) (pe_lc (own := [("at", 9)]) (g := (gName 9)) (tt := tYes) rfl sc__law_picture.nd (pi_range1 rfl T.n_range (pa_cons (pe_callB (k_len (K := K) rfl) rfl T.n_len (by decide +kernel) (pa_cons (pv 3) pa_nil)) pa_nil)) (blkOk_by (N := ["layers", "low", "high", "far", "rows", "x", "y", "strips", "row", "at", "columns", "lines", "kept", "here"]) (sc := defScope s__law_picture) (by decide +kernel)) (fun _ _ _ _ _ => (pg_name (i := 9) sc__law_picture.nd rfl (by first | exact Or.inl rfl | exact Or.inr rfl))) (fun _ _ _ _ _ => pts_nil) (fun _ _ _ _ _ => (pe_lc (own := [("row", 8)]) (g := (gName 8)) (tt := tYes) rfl sc__law_picture.nd (k_seq (K := K) rfl (pv 4)) (blkOk_by (by kernel_rfl)) (fun _ _ _ _ _ => (pg_name (i := 8) sc__law_picture.nd rfl (by first | exact Or.inl rfl | exact Or.inr rfl))) (fun _ _ _ _ _ => pts_nil) (fun _ _ _ _ _ => (pe_ix (k_ix (K := K) rfl) (pv 8) (pv 9) (fun _ _ => rfl))))))) (pss_cons (ps_set (i := 10) sc__law_picture.nd rfl (by first | exact Or.inl rfl | exact Or.inr rfl) (pe_lc (own := [("at", 9)]) (g := (gName 9)) rfl sc__law_picture.nd (pi_range2 rfl T.n_range (pa_cons pe_int (pa_cons (pe_callB (k_len (K := K) rfl) rfl T.n_len (by decide +kernel) (pa_cons (pv 3) pa_nil)) pa_nil))) (blkOk_by (N := ["layers", "low", "high", "far", "rows", "x", "y", "strips", "row", "at", "columns", "lines", "kept", "here"]) (sc := defScope s__law_picture) (by decide +kernel)) (fun _ _ _ _ _ => (pg_name (i := 9) sc__law_picture.nd rfl (by first | exact Or.inl rfl | exact Or.inr rfl))) (fun _ _ _ _ _ => (pts_one (pt_cmpR (k_ne (K := K) rfl hu) (pe_ix (k_ix (K := K) rfl) (pv 7) (pe_op op_sub (pv 9) pe_int) (fun _ _ => rfl)) (pe_ix (k_ix (K := K) rfl) (pv 7) (pv 9) (fun _ _ => rfl)) (nomark _)))) (fun _ _ _ _ _ => (pv 9)))) (pss_cons (ps_setLc (i := 11) (own := [("at", 9)]) (g := (gName 9)) rfl sc__law_picture.nd rfl rfl (sw_true rfl rfl rfl (by decide +kernel)) (pi_range2 rfl T.n_range (pa_cons pe_int (pa_cons (pe_callB (k_len (K := K) rfl) rfl T.n_len (by decide +kernel) (pa_cons (pv 3) pa_nil)) pa_nil))) (blkOk_by (N := ["layers", "low", "high", "far", "rows", "x", "y", "strips", "row", "at", "columns", "lines", "kept", "here"]) (sc := defScope s__law_picture) (by decide +kernel)) (fun _ _ _ _ _ => (pg_name (i := 9) sc__law_picture.nd rfl (by first | exact Or.inl rfl | exact Or.inr rfl))) (fun _ _ _ _ _ => (pts_one (pt_cmpR (k_ne (K := K) rfl hu) (pe_ix (k_ix (K := K) rfl) (pv 4) (pe_op op_sub (pv 9) pe_int) (fun _ _ => rfl)) (pe_ix (k_ix (K := K) rfl) (pv 4) (pv 9) (fun _ _ => rfl)) (nomark _)))) (fun _ _ _ _ _ => (pv 9))) (pss_cons (ps_setLc (i := 12) (own := [("here", 13)]) (g := (gName 13)) (tt := tYes) rfl sc__law_picture.nd rfl rfl (sw_true rfl rfl rfl (by decide +kernel)) (k_seq (K := K) rfl (pe_slice (k_slice (K := K) rfl) (pv 11) po_none (po_some (pe_un un_neg pe_int)))) (blkOk_by (N := ["layers", "low", "high", "far", "rows", "x", "y", "strips", "row", "at", "columns", "lines", "kept", "here"]) (sc := defScope s__law_picture) (by decide +kernel)) (fun _ _ _ _ _ => (pg_name (i := 13) sc__law_picture.nd rfl (by first | exact Or.inl rfl | exact Or.inr rfl))) (fun _ _ _ _ _ => pts_nil) (fun _ _ _ _ _ => (pe_lc (own := [("at", 9)]) (g := (gName 9)) (tt := tYes) rfl sc__law_picture.nd (k_seq (K := K) rfl (pe_slice (k_slice (K := K) rfl) (pv 10) po_none (po_some (pe_un un_neg pe_int)))) (blkOk_by (by kernel_rfl)) (fun _ _ _ _ _ => (pg_name (i := 9) sc__law_picture.nd rfl (by first | exact Or.inl rfl | exact Or.inr rfl))) (fun _ _ _ _ _ => pts_nil) (fun _ _ _ _ _ => (pe_ix (k_ix (K := K) rfl) (pe_ix (k_ix (K := K) rfl) (pv 4) (pv 13) (fun _ _ => rfl)) (pv 9) (fun _ _ => rfl)))))) (pss_one (ps_ret (pe_tup (pa_cons (pe_lc (own := [("at", 9)]) (g := (gName 9)) (tt := tYes) rfl sc__law_picture.nd (k_seq (K := K) rfl (pv 10)) (blkOk_by (N := ["layers", "low", "high", "far", "rows", "x", "y", "strips", "row", "at", "columns", "lines", "kept", "here"]) (sc := defScope s__law_picture) (by decide +kernel)) (fun _ _ _ _ _ => (pg_name (i := 9) sc__law_picture.nd rfl (by first | exact Or.inl rfl | exact Or.inr rfl))) (fun _ _ _ _ _ => pts_nil) (fun _ _ _ _ _ => (pe_ix (k_ix (K := K) rfl) (pv 3) (pv 9) (fun _ _ => rfl)))) (pa_cons (pe_lc (own := [("at", 9)]) (g := (gName 9)) (tt := tYes) rfl sc__law_picture.nd (k_seq (K := K) rfl (pv 11)) (blkOk_by (N := ["layers", "low", "high", "far", "rows", "x", "y", "strips", "row", "at", "columns", "lines", "kept", "here"]) (sc := defScope s__law_picture) (by decide +kernel)) (fun _ _ _ _ _ => (pg_name (i := 9) sc__law_picture.nd rfl (by first | exact Or.inl rfl | exact Or.inr rfl))) (fun _ _ _ _ _ => pts_nil) (fun _ _ _ _ _ => (pe_ix (k_ix (K := K) rfl) (pv 3) (pv 9) (fun _ _ => rfl)))) (pa_cons (pv 12) pa_nil)))))))))))), ?_⟩
  obtain ⟨F, hF⟩ : ∃ F : List Int, F = farL2 lo hi := ⟨_, rfl⟩
  rw [← hF] at ret
  have hFl : F.length = (hi + 1 - (lo - 1)).toNat := by rw [hF]; unfold farL2; rw [List.length_map, List.length_range]
  have hF5 : F.length ≤ 2002 := by omega
  refine s_seq (s_asg (d := eI F) e ((ev_listRg2 (ev_op (ev_v rfl (.int _)) ev_i rv_sub) (ev_op (ev_v rfl (.int _)) ev_i (rv_inl rv_add)) ⟨by omega, by omega⟩ ⟨by omega, by omega⟩).is (by rw [hF]; unfold farL2; show Dt.lst _ = Dt.lst _; rw [List.map_map]; rfl)) fun v3 B1 H1 n1 q1 => ?_)
  walk_at "u_m"
  have r1 := r1.mono n1.ext
  -- rows
  refine s_seq (s_asg (d := .lst ((celM F (tcol ls)).map eI)) n1.sub ((EvL.toR (el_lcN1 (l := F) (enc := Dt.int) (f := fun y => eI (F.map fun x => tcol ls x y)) (goesN_seq (ev_v rfl q1) (Items.lst _)) (by omega) fun y v B2 H2 k' hm e1 e2 rv go => ?_)).is (by unfold celM; rw [List.map_map]; rfl)) fun v4 B2 H2 n2 q2 => ?_)
  · cases rv
    refine go _ rfl ((EvL.toR (el_lcN1 (l := F) (enc := Dt.int) (f := fun x => .int (tcol ls x y)) (goesN_seq (ev_v rfl (q1.mono e1)) (Items.lst _)) (by omega) fun x v B3 H3 k2 hm2 e3 e4 rv2 go2 => ?_)).is (by show Dt.lst _ = Dt.lst _; rw [List.map_map]; rfl))
    cases rv2
    refine go2 _ rfl ((ev_op (ev_call (ea_cons (ev_v rfl ((r1.mono e1).mono e3)) (ea_cons (ev_v rfl (.int _)) (ea_cons (ev_v rfl (.int _)) ea_nil))) ⟨ls, x, y, rfl, rfl⟩) ev_i (?_ : RV (rIx K) (topD ls x y) (.int 0) (.int (tcol ls x y)))))
    unfold topD tcol
    cases topL ls x y with
    | none => exact rv_ixL rfl
    | some l => exact rv_ixL rfl
  walk_at "u_m"
  have q1 := q1.mono n2.ext
  obtain ⟨M, hM⟩ : ∃ M : List (List Int), M = celM F (tcol ls) := ⟨_, rfl⟩
  have hMl : M.length = F.length := by rw [hM, celM_len]
  have hMr : ∀ r ∈ M, r.length = F.length := by rw [hM]; exact celM_row
  rw [← hM] at q2
  have hlF : (F.map Dt.int).length = F.length := List.length_map ..
  -- strips
  refine s_seq (s_asg (d := .lst ((strM F.length M).map eI)) n2.sub ((EvL.toR (el_lcN1 (l := List.range F.length) (enc := fun i : Nat => .int (0 + (i : Int))) (f := fun i => eI (M.map fun row => row.getD i 0)) ((goesN_rng1 (n := ((F.map Dt.int).length : Nat)) (ea_cons (ev_cb (ea_cons (ev_v rfl q1) ea_nil) rl_lenL) ea_nil) (by omega) (by omega)).is (by rw [hlF, Int.toNat_natCast])) (by rw [List.length_range]; omega) fun i v B3 H3 k' hm e1 e2 rv go => ?_)).is (by unfold strM; rw [List.map_map]; rfl)) fun v7 B3 H3 n3 q3 => ?_)
  · have hi : i < F.length := List.mem_range.mp hm
    have rv : R B3 v (.int (i : Int)) := by have := rv; rw [Int.zero_add] at this; exact this
    cases rv
    refine go _ rfl ((EvL.toR (el_lcN1 (l := M) (enc := eI) (f := fun row => .int (row.getD i 0)) (goesN_seq (ev_v rfl (q2.mono e1)) (Items.lst _)) (by omega) fun row v B4 H4 k2 hm2 e3 e4 rv2 go2 => ?_)).is (by show Dt.lst _ = Dt.lst _; rw [List.map_map]; rfl))
    exact go2 _ rfl (ev_op (ev_v rfl rv2) (ev_v rfl (.int _)) (rv_ixL (at_ints2 (by rw [hMr row hm2]; exact hi))))
  walk_at "u_m"
  have q1 := q1.mono n3.ext
  have q2 := q2.mono n3.ext
  obtain ⟨N, hN⟩ : ∃ N : List (List Int), N = strM F.length M := ⟨_, rfl⟩
  have hNl : N.length = F.length := by rw [hN, strM_len]
  rw [← hN] at q3
  have nat1 : (((F.length : Nat) : Int) - 1).toNat = F.length - 1 := by omega
  have enc1 : ∀ i : Nat, (1 : Int) + (i : Int) = ((i + 1 : Nat) : Int) := fun i => by push_cast; omega
  -- columns
  refine s_seq (s_asg (d := .lst ((chg F.length N).map fun i : Nat => .int ((i + 1 : Nat) : Int))) n3.sub ((EvL.toR (el_lcN (l := List.range (F.length - 1)) (enc := fun i : Nat => .int (1 + (i : Int))) (c := fun i => !decide (N.getD i [] = N.getD (i + 1) [])) (f := fun i => .int ((i + 1 : Nat) : Int)) ((goesN_rng2 (m := 1) (n := ((F.map Dt.int).length : Nat)) (ea_cons ev_i (ea_cons (ev_cb (ea_cons (ev_v rfl q1) ea_nil) rl_lenL) ea_nil)) ⟨by decide, by decide⟩ ⟨by omega, by omega⟩).is (by rw [hlF, nat1])) (by rw [List.length_range]; omega) fun i v B4 H4 k' hm e1 e2 rv go => ?_)).is rfl) fun v10 B4 H4 n4 q4 => ?_)
  · have hi := List.mem_range.mp hm
    have rv : R B4 v (.int ((i + 1 : Nat) : Int)) := by have := rv; rw [enc1] at this; exact this
    cases rv
    refine go _ rfl ((ec_t (ev_op (ev_op (ev_v rfl (q3.mono e1)) (ev_op (ev_v rfl (.int _)) ev_i rv_sub) (rv_ixL (d := eI (N.getD i [])) ?_)) (ev_op (ev_v rfl (q3.mono e1)) (ev_v rfl (.int _)) (rv_ixL (at_rows2 (M := N) (i := i + 1) (by omega)))) (rv_inr (rv_neD shaped_eI shaped_eI)))).is (by rw [eqv_eI])) (fun _ => ev_v rfl (.int _))
    have : ((i + 1 : Nat) : Int) - 1 = (i : Int) := by push_cast; omega
    rw [this]
    exact at_rows2 (by omega)
  walk_at "u_m"
  have q1 := q1.mono n4.ext
  have q2 := q2.mono n4.ext
  -- lines
  refine s_seq (s_asg (d := .lst ((chg F.length M).map fun i : Nat => .int ((i + 1 : Nat) : Int))) n4.sub ((EvL.toR (el_lcN (l := List.range (F.length - 1)) (enc := fun i : Nat => .int (1 + (i : Int))) (c := fun i => !decide (M.getD i [] = M.getD (i + 1) [])) (f := fun i => .int ((i + 1 : Nat) : Int)) ((goesN_rng2 (m := 1) (n := ((F.map Dt.int).length : Nat)) (ea_cons ev_i (ea_cons (ev_cb (ea_cons (ev_v rfl q1) ea_nil) rl_lenL) ea_nil)) ⟨by decide, by decide⟩ ⟨by omega, by omega⟩).is (by rw [hlF, nat1])) (by rw [List.length_range]; omega) fun i v B5 H5 k' hm e1 e2 rv go => ?_)).is rfl) fun v11 B5 H5 n5 q5 => ?_)
  · have hi := List.mem_range.mp hm
    have rv : R B5 v (.int ((i + 1 : Nat) : Int)) := by have := rv; rw [enc1] at this; exact this
    cases rv
    refine go _ rfl ((ec_t (ev_op (ev_op (ev_v rfl (q2.mono e1)) (ev_op (ev_v rfl (.int _)) ev_i rv_sub) (rv_ixL (d := eI (M.getD i [])) ?_)) (ev_op (ev_v rfl (q2.mono e1)) (ev_v rfl (.int _)) (rv_ixL (at_rows2 (M := M) (i := i + 1) (by omega)))) (rv_inr (rv_neD shaped_eI shaped_eI)))).is (by rw [eqv_eI])) (fun _ => ev_v rfl (.int _))
    have : ((i + 1 : Nat) : Int) - 1 = (i : Int) := by push_cast; omega
    rw [this]
    exact at_rows2 (by omega)
  walk_at "u_m"
  have q1 := q1.mono n5.ext
  have q2 := q2.mono n5.ext
  have q4 := q4.mono n5.ext
  have lC := chg_len F.length N
  have lR := chg_len F.length M
  -- kept
  refine s_seq (s_asg (d := .lst (((chg F.length M).dropLast.map fun h => (chg F.length N).dropLast.map fun a => (M.getD (h + 1) []).getD (a + 1) 0).map eI)) n5.sub ((EvL.toR (el_lcN1 (l := (chg F.length M).dropLast) (enc := fun i : Nat => .int ((i + 1 : Nat) : Int)) (f := fun h => eI ((chg F.length N).dropLast.map fun a => (M.getD (h + 1) []).getD (a + 1) 0)) (goesN_seq ((ev_slD (ev_v rfl q5) (ev_un ev_i ru_neg)).is (by rw [cut_last])) (Items.lst _)) (by rw [List.length_dropLast]; omega) fun h v B6 H6 k' hm e1 e2 rv go => ?_)).is (by rw [List.map_map]; rfl)) fun v12 B6 H6 n6 q6 => ?_)
  · cases rv
    have hh := chg_lt (List.dropLast_subset _ hm)
    refine go _ rfl ((EvL.toR (el_lcN1 (l := (chg F.length N).dropLast) (enc := fun i : Nat => .int ((i + 1 : Nat) : Int)) (f := fun a => .int ((M.getD (h + 1) []).getD (a + 1) 0)) (goesN_seq ((ev_slD (ev_v rfl (q4.mono e1)) (ev_un ev_i ru_neg)).is (by rw [cut_last])) (Items.lst _)) (by rw [List.length_dropLast]; omega) fun a v B7 H7 k2 hm2 e3 e4 rv2 go2 => ?_)).is (by show Dt.lst _ = Dt.lst _; rw [List.map_map]; rfl))
    cases rv2
    have ha := chg_lt (List.dropLast_subset _ hm2)
    have hrow : (M.getD (h + 1) []).length = F.length := by
      refine hMr _ ?_
      rw [List.getD_eq_getElem?_getD, List.getElem?_eq_getElem (by omega)]
      exact List.getElem_mem _
    exact go2 _ rfl (ev_op (ev_op (ev_v rfl ((q2.mono e1).mono e3)) (ev_v rfl (.int _)) (rv_ixL (at_rows2 (M := M) (i := h + 1) (by omega)))) (ev_v rfl (.int _)) (rv_ixL (at_ints2 (i := a + 1) (by omega))))
  walk_at "u_m"
  have q1 := q1.mono n6.ext
  have q4 := q4.mono n6.ext
  have q5 := q5.mono n6.ext
  have NN := ((((n1.trans n2).trans n3).trans n4).trans n5).trans n6
  refine s_retE n6.sub (ev_tup (ea_cons (EvL.toR (el_lcN1 (l := chg F.length N) (enc := fun i : Nat => .int ((i + 1 : Nat) : Int)) (f := fun i => .int (F.getD (i + 1) 0)) (goesN_seq (ev_v rfl q4) (Items.lst _)) (by omega) fun i v B7 H7 k' hm e1 e2 rv go => ?_)) (ea_cons (EvL.toR (el_lcN1 (l := chg F.length M) (enc := fun i : Nat => .int ((i + 1 : Nat) : Int)) (f := fun i => .int (F.getD (i + 1) 0)) (goesN_seq (ev_v rfl q5) (Items.lst _)) (by omega) fun i v B7 H7 k' hm e1 e2 rv go => ?_)) (ea_cons (ev_v rfl q6) ea_nil))) (by simp)) ?_ fun v B8 H8 n8 rv => ret v B8 H8 (NN.trans n8) rv
  · cases rv
    exact go _ rfl (ev_op (ev_v rfl (q1.mono e1)) (ev_v rfl (.int _)) (rv_ixL (at_ints2 (i := i + 1) (chg_lt hm))))
  · cases rv
    exact go _ rfl (ev_op (ev_v rfl (q1.mono e1)) (ev_v rfl (.int _)) (rv_ixL (at_ints2 (i := i + 1) (chg_lt hm))))
  · unfold dPic cellC cellR cellG
    rw [← hM, ← hN]
    show Dt.tup [Dt.lst _, Dt.lst _, _] = Dt.tup [Dt.lst _, Dt.lst _, _]
    simp only [List.map_map]
    rfl

def picT (cs rs : List Int) (g : List (List Int)) : Dt := .tup [eI cs, eI rs, eG g]
theorem rows_lay : ∀ (g : List (List Int)), PyData.canLayAll0 (pyAll (g.map eI)) = true ∧ depAll (g.map eI) ≤ 1
  | [] => ⟨by simp [pyAll, PyData.canLayAll0], by simp [depAll]⟩
  | x :: l => by
    obtain ⟨h1, h2⟩ := rows_lay l
    refine ⟨?_, ?_⟩
    · rw [List.map_cons, pyAll, PyData.canLayAll0, h1, Dt.py, PyData.canLay0, canLay_ints]; rfl
    · rw [List.map_cons, depAll, Dt.dep, depAll_ints]; omega
theorem shaped_eG {g : List (List Int)} : SeqAt.shaped (eG g).py = true := by
  obtain ⟨h1, h2⟩ := rows_lay g
  unfold SeqAt.shaped eG
  rw [dep_py, Dt.dep, Dt.py, PyData.canLay0, h1]
  simp only [Bool.true_and, decide_eq_true_eq]
  omega
theorem shaped_picT {cs rs : List Int} {g : List (List Int)} : SeqAt.shaped (picT cs rs g).py = true := by
  obtain ⟨h1, h2⟩ := rows_lay g
  unfold SeqAt.shaped picT eG
  rw [dep_py, Dt.dep, depAll, depAll, depAll, depAll, Dt.dep, Dt.dep, Dt.dep, depAll_ints, depAll_ints, Dt.py, PyData.canLay0, pyAll, pyAll, pyAll, pyAll, PyData.canLayAll0, PyData.canLayAll0, PyData.canLayAll0, PyData.canLayAll0, Dt.py, Dt.py, Dt.py, PyData.canLay0, PyData.canLay0, PyData.canLay0, canLay_ints, canLay_ints, h1]
  simp only [Bool.true_and, decide_eq_true_eq]
  omega
theorem shaped_eFr {a b : Int} : SeqAt.shaped (eFr a b).py = true := shaped_eT (ns := [a, b])
theorem eFr_eqv {a b c d : Int} : PyData.eqv (eFr a b).py (eFr c d).py = decide ([a, b] = [c, d]) := eqv_eT [a, b] [c, d]
theorem ePg_one (s : Sm) : ePg [s] = [eSt s] := by rw [ePg, ePg]
theorem okP_one {a b : Int} {n : Nat} {s : Sm} (h : okS a b (okP a b n) s) : okP a b (n + 1) [s] := fun t ht => by rw [List.mem_singleton.mp ht]; exact h

/-! what a cell's colour is: that of the last stroke which holds it -/
def natS {α : Type} (h : α → Bool) : List α → Nat
  | [] => 0
  | s :: ss => (if h s = true then 1 else 0) + 2 * natS h ss
theorem stack_natS (P : Int × Int → Bool) : ∀ (sp : List (Int × Int)) (k : Nat), (((sp.zipIdx k).filter fun p => P p.1).map fun p => (2 : Int) ^ p.2).sum = (2 : Int) ^ k * (natS P sp : Nat)
  | [], k => by simp [natS]
  | x :: sp, k => by
    have h2 := stack_natS P sp (k + 1)
    rw [List.zipIdx_cons, List.filter_cons, natS]
    cases hp : P x with
    | true =>
      simp only [if_true, List.map_cons, List.sum_cons, h2]
      rw [Int.pow_succ]
      push_cast
      rw [Int.mul_add, Int.mul_assoc, Int.mul_one]
    | false =>
      simp only [Bool.false_eq_true, if_false, h2]
      rw [Int.pow_succ]
      push_cast
      rw [Int.zero_add, Int.mul_assoc]
theorem stackAt_nat (sp : List (Int × Int)) (x : Int) : stackAt sp x = (natS (inSp x) sp : Nat) := by
  unfold stackAt
  rw [stack_natS (inSp x) sp 0]
  simp
theorem natS_map {α β : Type} (h : β → Bool) (f : α → β) : ∀ l : List α, natS h (l.map f) = natS (fun a => h (f a)) l
  | [] => rfl
  | a :: l => by rw [List.map_cons, natS, natS, natS_map h f l]
theorem and_bit (a b x y : Nat) (ha : a < 2) (hb : b < 2) : (a + 2 * x) &&& (b + 2 * y) = (a &&& b) + 2 * (x &&& y) := by
  have ha' : a = 0 ∨ a = 1 := by omega
  have hb' : b = 0 ∨ b = 1 := by omega
  refine Nat.eq_of_testBit_eq fun i => ?_
  cases i with
  | zero =>
    rw [Nat.testBit_and]
    rcases ha' with rfl | rfl <;> rcases hb' with rfl | rfl <;> simp [Nat.testBit_zero, Nat.add_mul_mod_self_left]
  | succ i =>
    rw [Nat.testBit_and, Nat.testBit_succ, Nat.testBit_succ, Nat.testBit_succ]
    have e1 : (a + 2 * x) / 2 = x := by omega
    have e2 : (b + 2 * y) / 2 = y := by omega
    have e3 : ((a &&& b) + 2 * (x &&& y)) / 2 = x &&& y := by rcases ha' with rfl | rfl <;> rcases hb' with rfl | rfl <;> simp <;> omega
    rw [e1, e2, e3, Nat.testBit_and]
theorem natS_and {α : Type} (f g : α → Bool) : ∀ l : List α, natS f l &&& natS g l = natS (fun a => f a && g a) l
  | [] => by simp [natS]
  | a :: l => by
    rw [natS, natS, natS, and_bit _ _ _ _ (by split <;> decide) (by split <;> decide), natS_and f g l]
    congr 1
    cases f a <;> cases g a <;> rfl
theorem bits_step {b n : Nat} (hb : b < 2) (hn : 0 < n) : Builtin.Int.intBits ((b + 2 * n : Nat) : Int) = Builtin.Int.intBits (n : Int) + 1 := by
  have key : ∀ k : Nat, Builtin.Int.intBits ((b + 2 * n : Nat) : Int) ≤ k + 1 ↔ Builtin.Int.intBits (n : Int) ≤ k := fun k => by
    have h1 := PySem.intBits_le_iff (x := ((b + 2 * n : Nat) : Int)) (m := k + 1)
    have h2 := PySem.intBits_le_iff (x := (n : Int)) (m := k)
    rw [h1, h2, Int.natAbs_natCast, Int.natAbs_natCast, Nat.pow_succ]
    omega
  have h0 : ¬ Builtin.Int.intBits ((b + 2 * n : Nat) : Int) ≤ 0 := fun z => by
    have h1 := (PySem.intBits_le_iff (x := ((b + 2 * n : Nat) : Int)) (m := 0)).mp z
    rw [Int.natAbs_natCast] at h1
    omega
  have h1 := (key (Builtin.Int.intBits (n : Int))).mpr (Nat.le_refl _)
  obtain ⟨j, hj⟩ : ∃ j, Builtin.Int.intBits ((b + 2 * n : Nat) : Int) = j + 1 := ⟨Builtin.Int.intBits ((b + 2 * n : Nat) : Int) - 1, by omega⟩
  have h2 := (key j).mp (by omega)
  omega
def lastC (l : List Int) : Int := l.getLast?.getD 0
theorem lastC_cons {a : Int} {l : List Int} (h : l ≠ []) : lastC (a :: l) = lastC l := by
  unfold lastC
  rw [List.getLast?_cons]
  cases hl : l.getLast? with
  | none => exact absurd (List.getLast?_eq_none_iff.mp hl) h
  | some b => rfl
theorem lastC_append {a b : List Int} : lastC (a ++ b) = if b = [] then lastC a else lastC b := by
  by_cases hb : b = []
  · rw [if_pos hb, hb, List.append_nil]
  · rw [if_neg hb]
    unfold lastC
    rw [List.getLast?_append]
    cases hl : b.getLast? with
    | none => exact absurd (List.getLast?_eq_none_iff.mp hl) hb
    | some c => rfl
theorem top_last {α : Type} (h : α → Bool) (col : α → Int) : ∀ l : List α, (0 < natS h l ↔ l.filter h ≠ []) ∧ topC ((natS h l : Nat) : Int) (l.map col) = lastC ((l.filter h).map col)
  | [] => ⟨by simp [natS], by simp [natS, topC, lastC]⟩
  | a :: l => by
    obtain ⟨h1, h2⟩ := top_last h col l
    rw [natS, List.filter_cons]
    by_cases hn : 0 < natS h l
    · have hne := h1.mp hn
      refine ⟨⟨fun _ => by split <;> simp [hne], fun _ => by omega⟩, ?_⟩
      have e1 : topC (((if h a = true then 1 else 0) + 2 * natS h l : Nat) : Int) ((a :: l).map col) = topC ((natS h l : Nat) : Int) (l.map col) := by
        obtain ⟨b, hbd⟩ : ∃ b : Nat, b = if h a = true then 1 else 0 := ⟨_, rfl⟩
        have hb2 : b < 2 := by rw [hbd]; split <;> decide
        rw [← hbd]
        have p1 : (0 : Int) < ((b + 2 * natS h l : Nat) : Int) := by omega
        have p2 : (0 : Int) < ((natS h l : Nat) : Int) := by omega
        unfold topC
        rw [if_pos p1, if_pos p2, bits_step hb2 hn, List.map_cons]
        have hb : 1 ≤ Builtin.Int.intBits ((natS h l : Nat) : Int) := by
          by_cases z : Builtin.Int.intBits ((natS h l : Nat) : Int) ≤ 0
          · have := (PySem.intBits_le_iff (x := ((natS h l : Nat) : Int)) (m := 0)).mp z
            rw [Int.natAbs_natCast] at this
            omega
          · omega
        obtain ⟨j, hj⟩ : ∃ j, Builtin.Int.intBits ((natS h l : Nat) : Int) = j + 1 := ⟨Builtin.Int.intBits ((natS h l : Nat) : Int) - 1, by omega⟩
        rw [hj]
        rfl
      rw [e1, h2]
      split
      · rw [List.map_cons, lastC_cons (fun z => hne (List.map_eq_nil_iff.mp z))]
      · rfl
    · have hz : natS h l = 0 := by omega
      have he : l.filter h = [] := by
        by_cases z : l.filter h = []
        · exact z
        · exact absurd (h1.mpr z) hn
      rw [hz, he]
      by_cases ha : h a = true
      · rw [if_pos ha, if_pos ha]
        exact ⟨by simp, by rfl⟩
      · rw [if_neg ha, if_neg ha]
        exact ⟨by simp, by rfl⟩
def stIn (p q : List Int) (x y : Int) (s : Sk) : Bool := inSp x (spanB p s.across) && inSp y (spanB q s.down)
def hitL (sks : List Sk) (p q : List Int) (x y : Int) : List Int := (sks.filter (stIn p q x y)).map Sk.col
theorem top_hit (sks : List Sk) (p q : List Int) (x y : Int) : topC (Builtin.bitAnd (stackAt (spansA true sks p) x) (stackAt (spansA false sks q) y)) (sks.map Sk.col) = lastC (hitL sks p q x y) := by
  rw [stackAt_nat, stackAt_nat, PySem.W.os_band]
  have e1 : natS (inSp x) (spansA true sks p) = natS (fun s : Sk => inSp x (spanB p s.across)) sks := by unfold spansA; rw [natS_map]; rfl
  have e2 : natS (inSp y) (spansA false sks q) = natS (fun s : Sk => inSp y (spanB q s.down)) sks := by unfold spansA; rw [natS_map]; rfl
  rw [e1, e2, natS_and]
  exact (top_last (stIn p q x y) Sk.col sks).2
theorem hitL_append (a b : List Sk) (p q : List Int) (x y : Int) : hitL (a ++ b) p q x y = hitL a p q x y ++ hitL b p q x y := by
  unfold hitL
  rw [List.filter_append, List.map_append]
/-! bounds hold a place -/
def inB (vs : List Int) (x : Int) (b : Bd) : Bool := (b.tests.all (hold vs) && b.lows.all fun c => decide (cv vs c ≤ x)) && b.highs.all fun c => decide (x < cv vs c)
theorem inB_span {vs : List Int} {x : Int} {b : Bd} (h1 : b.lows ≠ []) (h2 : b.highs ≠ []) : inSp x (spanB vs b) = inB vs x b := by
  unfold spanB inB inSp
  by_cases ht : b.tests.all (hold vs) = true
  · rw [if_pos ht, ht, Bool.true_and]
    congr 1
    · have m1 := maxL_mem (xs := b.lows.map (cv vs)) (by simpa using h1)
      by_cases hx : maxL (b.lows.map (cv vs)) ≤ x
      · rw [decide_eq_true hx]
        refine (List.all_eq_true.mpr fun c hc => decide_eq_true ?_).symm
        have := le_maxL (List.mem_map.mpr ⟨c, hc, rfl⟩ : cv vs c ∈ b.lows.map (cv vs))
        omega
      · rw [decide_eq_false hx]
        obtain ⟨c, hc, e⟩ := List.mem_map.mp m1
        refine (List.all_eq_false.mpr ⟨c, hc, ?_⟩).symm
        simp only [decide_eq_true_eq]
        omega
    · have m1 := minL_mem (xs := b.highs.map (cv vs)) (by simpa using h2)
      by_cases hx : x < minL (b.highs.map (cv vs))
      · rw [decide_eq_true hx]
        refine (List.all_eq_true.mpr fun c hc => decide_eq_true ?_).symm
        have := minL_le (List.mem_map.mpr ⟨c, hc, rfl⟩ : cv vs c ∈ b.highs.map (cv vs))
        omega
      · rw [decide_eq_false hx]
        obtain ⟨c, hc, e⟩ := List.mem_map.mp m1
        refine (List.all_eq_false.mpr ⟨c, hc, ?_⟩).symm
        simp only [decide_eq_true_eq]
        omega
  · have ht' : b.tests.all (hold vs) = false := by simpa using ht
    rw [if_neg ht, ht', Bool.false_and, Bool.false_and]
    by_cases hx : (0 : Int) ≤ x
    · rw [decide_eq_false (p := x < (0, 0).2) (by show ¬ x < 0; omega), Bool.and_false]
    · rw [decide_eq_false (p := ((0, 0) : Int × Int).1 ≤ x) hx, Bool.false_and]
def inA (p q : List Int) (x y : Int) (ar : Ar) : Bool := inB p x ar.1 && inB q y ar.2
theorem inB_nar {vs : List Int} {x d : Int} {b : Bd} {lo hi : Cor} : inB vs x (nar b lo hi d) = (inB vs x b && (decide (cv vs lo + d ≤ x) && decide (x < cv vs hi + d))) := by
  unfold inB nar
  simp only [List.all_append, List.all_cons, List.all_nil, Bool.and_true, cv_mv]
  cases b.tests.all (hold vs) <;> cases (b.lows.all fun c => decide (cv vs c ≤ x)) <;> cases (b.highs.all fun c => decide (x < cv vs c)) <;> cases decide (cv vs lo + d ≤ x) <;> cases decide (x < cv vs hi + d) <;> rfl
theorem inA_box {p q : List Int} {x y : Int} {ar : Ar} {bx : Bx} {mv : Int × Int} : inA p q x y (boxd ar bx mv) = (inA p q x y ar && inPt x y (numP p q mv bx)) := by
  unfold inA boxd inPt numP
  dsimp only
  rw [inB_nar, inB_nar]
  cases inB p x ar.1 <;> cases inB q y ar.2 <;> cases (decide (cv p bx.l + mv.1 ≤ x) && decide (x < cv p bx.r + mv.1)) <;> cases (decide (cv q bx.t + mv.2 ≤ y) && decide (y < cv q bx.b + mv.2)) <;> rfl
theorem stIn_box {p q : List Int} {x y c : Int} {ar : Ar} {bx : Bx} {mv : Int × Int} : stIn p q x y ⟨(boxd ar bx mv).1, (boxd ar bx mv).2, c⟩ = inA p q x y (boxd ar bx mv) := by
  unfold stIn inA
  dsimp only
  rw [inB_span (by simp [boxd, nar]) (by simp [boxd, nar]), inB_span (by simp [boxd, nar]) (by simp [boxd, nar])]
theorem inA_tst {p q : List Int} {x y : Int} {ar : Ar} {ax : Bool} {c e : Cor} : inA p q x y (tst ar ax c e) = (inA p q x y ar && hold (if ax = true then p else q) (c, e)) := by
  cases ax with
  | true =>
    show (inB p x ⟨ar.1.lows, ar.1.highs, ar.1.tests ++ [(c, e)]⟩ && inB q y ar.2) = ((inB p x ar.1 && inB q y ar.2) && hold p (c, e))
    unfold inB
    simp only [List.all_append, List.all_cons, List.all_nil, Bool.and_true]
    cases ar.1.tests.all (hold p) <;> cases hold p (c, e) <;> simp
  | false =>
    show (inB p x ar.1 && inB q y ⟨ar.2.lows, ar.2.highs, ar.2.tests ++ [(c, e)]⟩) = ((inB p x ar.1 && inB q y ar.2) && hold q (c, e))
    unfold inB
    simp only [List.all_append, List.all_cons, List.all_nil, Bool.and_true]
    cases ar.2.tests.all (hold q) <;> cases hold q (c, e) <;> simp
mutual
theorem no_hitS {p q : List Int} {x y : Int} : ∀ (s : Sm) (mv : Int × Int) (ar : Ar), inA p q x y ar = false → hitL (skS s mv ar) p q x y = []
  | .fill bx c, mv, ar, h => by
    rw [skS]
    unfold hitL
    rw [List.filter_cons, if_neg (by rw [stIn_box, inA_box, h]; simp)]
    rfl
  | .clip bx ss, mv, ar, h => by rw [skS]; exact no_hitP ss mv _ (by rw [inA_box, h, Bool.false_and])
  | .move dx dy ss, mv, ar, h => by rw [skS]; exact no_hitP ss _ ar h
  | .iff ax c e a b, mv, ar, h => by
    rw [skS, hitL_append, no_hitP a mv _ (by rw [inA_tst, h, Bool.false_and]), no_hitP b mv _ (by rw [inA_tst, h, Bool.false_and])]
    rfl
theorem no_hitP {p q : List Int} {x y : Int} : ∀ (ss : List Sm) (mv : Int × Int) (ar : Ar), inA p q x y ar = false → hitL (skP ss mv ar) p q x y = []
  | [], mv, ar, h => by rw [skP]; rfl
  | s :: ss, mv, ar, h => by rw [skP, hitL_append, no_hitS s mv ar h, no_hitP ss mv ar h]; rfl
end
def clIn (x y : Int) : Option Pt → Bool
  | none => true
  | some c => inPt x y c
theorem inPt_ins {x y : Int} {a c : Pt} : inPt x y (insP a c) = (inPt x y a && inPt x y c) := by
  unfold inPt insP
  dsimp only
  have e1 : decide ((if c.l > a.l then c.l else a.l) ≤ x) = (decide (a.l ≤ x) && decide (c.l ≤ x)) := by
    split
    · by_cases h : c.l ≤ x
      · rw [decide_eq_true h, decide_eq_true (by omega)]; rfl
      · rw [decide_eq_false h, Bool.and_false]
    · by_cases h : a.l ≤ x
      · rw [decide_eq_true h, decide_eq_true (by omega)]; rfl
      · rw [decide_eq_false h, Bool.false_and]
  have e2 : decide (x < (if c.r < a.r then c.r else a.r)) = (decide (x < a.r) && decide (x < c.r)) := by
    split
    · by_cases h : x < c.r
      · rw [decide_eq_true h, decide_eq_true (by omega)]; rfl
      · rw [decide_eq_false h, Bool.and_false]
    · by_cases h : x < a.r
      · rw [decide_eq_true h, decide_eq_true (by omega)]; rfl
      · rw [decide_eq_false h, Bool.false_and]
  have e3 : decide ((if c.t > a.t then c.t else a.t) ≤ y) = (decide (a.t ≤ y) && decide (c.t ≤ y)) := by
    split
    · by_cases h : c.t ≤ y
      · rw [decide_eq_true h, decide_eq_true (by omega)]; rfl
      · rw [decide_eq_false h, Bool.and_false]
    · by_cases h : a.t ≤ y
      · rw [decide_eq_true h, decide_eq_true (by omega)]; rfl
      · rw [decide_eq_false h, Bool.false_and]
  have e4 : decide (y < (if c.b < a.b then c.b else a.b)) = (decide (y < a.b) && decide (y < c.b)) := by
    split
    · by_cases h : y < c.b
      · rw [decide_eq_true h, decide_eq_true (by omega)]; rfl
      · rw [decide_eq_false h, Bool.and_false]
    · by_cases h : y < a.b
      · rw [decide_eq_true h, decide_eq_true (by omega)]; rfl
      · rw [decide_eq_false h, Bool.false_and]
  rw [e1, e2, e3, e4]
  cases decide (a.l ≤ x) <;> cases decide (c.l ≤ x) <;> cases decide (x < a.r) <;> cases decide (x < c.r) <;> cases decide (a.t ≤ y) <;> cases decide (c.t ≤ y) <;> cases decide (y < a.b) <;> cases decide (y < c.b) <;> rfl
theorem inPt_O {x y : Int} {a : Pt} {cl : Option Pt} : inPt x y (inO cl a) = (clIn x y cl && inPt x y a) := by
  cases cl with
  | none => rfl
  | some c => show inPt x y (insP a c) = (inPt x y c && inPt x y a); rw [inPt_ins, Bool.and_comm]
def lyH (ls : List Ly) (x y : Int) : List Int := (ls.filter fun l => inPt x y l.pt).map Ly.c
theorem lyH_append (a b : List Ly) (x y : Int) : lyH (a ++ b) x y = lyH a x y ++ lyH b x y := by
  unfold lyH
  rw [List.filter_append, List.map_append]
mutual
theorem ly_hitS {p q : List Int} {x y : Int} : ∀ (s : Sm) (mv : Int × Int) (ar : Ar) (cl : Option Pt) (n : Int), inA p q x y ar = clIn x y cl → lyH (lyS p q s mv cl n) x y = hitL (skS s mv ar) p q x y
  | .fill bx c, mv, ar, cl, n, h => by
    rw [lyS, skS]
    unfold lyH hitL
    have e : inPt x y (inO cl (numP p q mv bx)) = stIn p q x y ⟨(boxd ar bx mv).1, (boxd ar bx mv).2, c⟩ := by rw [inPt_O, stIn_box, inA_box, h]
    rw [List.filter_cons, List.filter_cons]
    dsimp only
    rw [e]
    split <;> rfl
  | .clip bx ss, mv, ar, cl, n, h => by
    rw [lyS, skS]
    exact ly_hitP ss mv _ _ n (by rw [inA_box, h]; exact inPt_O.symm)
  | .move dx dy ss, mv, ar, cl, n, h => by
    rw [lyS, skS]
    exact ly_hitP ss _ ar cl n h
  | .iff ax c e a b, mv, ar, cl, n, h => by
    rw [lyS, skS, hitL_append]
    by_cases hc : cv (if ax = true then p else q) c < cv (if ax = true then p else q) e
    · rw [if_pos hc, no_hitP b mv _ (by
        rw [inA_tst]
        unfold hold
        dsimp only
        rw [decide_eq_false (by rw [cv_mv]; omega), Bool.and_false]), List.append_nil]
      exact ly_hitP a mv _ cl n (by
        rw [inA_tst, h]
        unfold hold
        dsimp only
        rw [decide_eq_true hc, Bool.and_true])
    · rw [if_neg hc, no_hitP a mv _ (by
        rw [inA_tst]
        unfold hold
        dsimp only
        rw [decide_eq_false hc, Bool.and_false]), List.nil_append]
      exact ly_hitP b mv _ cl _ (by
        rw [inA_tst, h]
        unfold hold
        dsimp only
        rw [decide_eq_true (by rw [cv_mv]; omega), Bool.and_true])
theorem ly_hitP {p q : List Int} {x y : Int} : ∀ (ss : List Sm) (mv : Int × Int) (ar : Ar) (cl : Option Pt) (n : Int), inA p q x y ar = clIn x y cl → lyH (lyP p q ss mv cl n) x y = hitL (skP ss mv ar) p q x y
  | [], mv, ar, cl, n, h => by rw [lyP, skP]; rfl
  | s :: ss, mv, ar, cl, n, h => by rw [lyP, skP, lyH_append, hitL_append, ly_hitS s mv ar cl n h, ly_hitP ss mv ar cl _ h]
end
theorem laid_hit (ss : List Sm) (p q : List Int) (x y : Int) : lyH (laid ss p q) x y = hitL (skP ss (0, 0) (unb, unb)) p q x y := ly_hitP ss (0, 0) (unb, unb) none 0 rfl
theorem topL_hit {ls : List Ly} {x y : Int} : (topL ls x y).map Ly.c = (lyH ls x y).getLast? := by
  unfold topL lyH
  rw [List.getLast?_map]

noncomputable def exX (ss : List Sm) (p : List Int) : List Int := edgeL (spansA true (skP ss (0, 0) (unb, unb)) p)
noncomputable def eyX (ss : List Sm) (q : List Int) : List Int := edgeL (spansA false (skP ss (0, 0) (unb, unb)) q)
noncomputable def hitX (ss : List Sm) (p q : List Int) (x y : Int) : Int := lastC (hitL (skP ss (0, 0) (unb, unb)) p q x y)
def picE (ex ey : List Int) (g : List (List Int)) : Dt := .tup [eI ((frmA ex.length g).map fun i => ex.getD i 0), eI ((unl g).map fun j => ey.getD j 0), eG (frmG g (frmA ex.length g) (unl g))]
theorem gridX_hit (ss : List Sm) (p q : List Int) : gridX ss p q = (eyX ss q).map fun y => (exX ss p).map fun x => hitX ss p q x y := by
  unfold gridX gridL colX covL coverL colsP
  rw [List.map_map]
  refine List.map_congr_left fun y _ => ?_
  show List.map _ (List.map _ _) = _
  rw [List.map_map]
  refine List.map_congr_left fun x _ => ?_
  exact top_hit _ p q x y
theorem getD_fst {cs : List (Int × Int)} {i : Nat} : (cs.getD i (0, 0)).1 = (cs.map Prod.fst).getD i 0 := by
  by_cases h : i < cs.length
  · rw [List.getD_eq_getElem?_getD, List.getD_eq_getElem?_getD, List.getElem?_map, List.getElem?_eq_getElem h]
    rfl
  · rw [List.getD_eq_getElem?_getD, List.getD_eq_getElem?_getD, List.getElem?_map, List.getElem?_eq_none (by omega)]
    rfl
theorem colX_fst (ax : Bool) (ss : List Sm) (vs : List Int) : (colX ax ss vs).map Prod.fst = edgeL (spansA ax (skP ss (0, 0) (unb, unb)) vs) := by
  unfold colX covL coverL
  rw [List.map_map]
  exact List.map_id _
theorem colX_len2 (ax : Bool) (ss : List Sm) (vs : List Int) : (colX ax ss vs).length = (edgeL (spansA ax (skP ss (0, 0) (unb, unb)) vs)).length := by
  rw [← colX_fst, List.length_map]
theorem picD_E (ss : List Sm) (p q : List Int) : picD ss p q = picE (exX ss p) (eyX ss q) (gridX ss p q) := by
  show frm (colX true ss p) (colX false ss q) (gridX ss p q) = _
  unfold frm picE
  rw [colX_len2]
  simp only [getD_fst, colX_fst]
  rfl
theorem edges_twice (sp : List (Int × Int)) : edgeL (sp ++ sp) = edgeL sp := by
  refine (edgeL_eq ⟨fun x => ?_, (edgeL_ok sp).2⟩).symm
  rw [(edgeL_ok sp).1 x]
  unfold edgesOf
  rw [List.filter_append, List.flatMap_append, List.mem_append]
  exact ⟨fun h => .inl h, fun h => h.elim id id⟩
theorem hit_twice (ss : List Sm) (p q : List Int) (x y : Int) : hitX (ss ++ ss) p q x y = hitX ss p q x y := by
  unfold hitX
  rw [skP_append, hitL_append, lastC_append]
  split
  · rfl
  · rfl
theorem pic_twice (ss : List Sm) (p q : List Int) : picD (ss ++ ss) p q = picD ss p q := by
  have e1 : exX (ss ++ ss) p = exX ss p := by
    unfold exX spansA
    rw [skP_append, List.map_append]
    exact edges_twice _
  have e2 : eyX (ss ++ ss) q = eyX ss q := by
    unfold eyX spansA
    rw [skP_append, List.map_append]
    exact edges_twice _
  rw [picD_E, picD_E, gridX_hit, gridX_hit, e1, e2]
  simp only [hit_twice]
theorem maxL_two (a : Int) : maxL [a, a] = a := by simp [maxL]
theorem minL_two (a : Int) : minL [a, a] = a := by simp [minL]
theorem pic_box (bx : Bx) (c : Int) (p q : List Int) : picD [.clip bx [.fill bx c]] p q = picD [.fill bx c] p q := by
  have h1 : skP [.clip bx [.fill bx c]] (0, 0) (unb, unb) = [⟨⟨[mvC bx.l 0, mvC bx.l 0], [mvC bx.r 0, mvC bx.r 0], []⟩, ⟨[mvC bx.t 0, mvC bx.t 0], [mvC bx.b 0, mvC bx.b 0], []⟩, c⟩] := by
    rw [skP, skP, List.append_nil, skS, skP, skP, List.append_nil, skS]
    rfl
  have h2 : skP [.fill bx c] (0, 0) (unb, unb) = [⟨⟨[mvC bx.l 0], [mvC bx.r 0], []⟩, ⟨[mvC bx.t 0], [mvC bx.b 0], []⟩, c⟩] := by
    rw [skP, skP, List.append_nil, skS]
    rfl
  have s : ∀ (vs : List Int) (l h : Cor), spanB vs ⟨[l, l], [h, h], []⟩ = spanB vs ⟨[l], [h], []⟩ := fun vs l h => by
    unfold spanB
    show (maxL [cv vs l, cv vs l], minL [cv vs h, cv vs h]) = (maxL [cv vs l], minL [cv vs h])
    rw [maxL_two, minL_two]
    rfl
  have e : ∀ (ax : Bool) (vs : List Int), colX ax [.clip bx [.fill bx c]] vs = colX ax [.fill bx c] vs := fun ax vs => by
    unfold colX spansA
    rw [h1, h2]
    cases ax <;> simp [s]
  unfold picD
  rw [e, e]
  unfold colsP
  rw [h1, h2]
  rfl

/-! the picture by edges is the picture cell by cell -/
def colsF (F : List Int) (t : Int → Int → Int) : List (List Int) := F.map fun x => F.map fun y => t x y
structure Edged (X : List Int) (t : Int → Int → Int) : Prop where
  asc : X.Pairwise (· < ·)
  same : ∀ x, x ∉ X → ∀ y, t x y = t (x - 1) y
  low : ∀ x, (∀ e ∈ X, x < e) → ∀ y, t x y = 0
  top : ∀ x, (∀ e ∈ X, e ≤ x) → ∀ y, t x y = 0
theorem Edged.run {X : List Int} {t : Int → Int → Int} (h : Edged X t) (y : Int) : ∀ (n : Nat) (a : Int), (∀ e ∈ X, ¬ (a < e ∧ e ≤ a + n)) → t (a + n) y = t a y
  | 0, a, _ => by simp
  | n + 1, a, hn => by
    have h1 : a + ((n + 1 : Nat) : Int) ∉ X := fun z => hn _ z ⟨by push_cast; omega, Int.le_refl _⟩
    rw [h.same _ h1]
    have e : a + ((n + 1 : Nat) : Int) - 1 = a + (n : Int) := by push_cast; omega
    rw [e]
    exact h.run y n a fun z hz k => hn z hz ⟨k.1, by push_cast; omega⟩
theorem Edged.span {X : List Int} {t : Int → Int → Int} (h : Edged X t) {a b : Int} (hab : a ≤ b) (hn : ∀ e ∈ X, ¬ (a < e ∧ e ≤ b)) (y : Int) : t b y = t a y := by
  have e : b = a + ((b - a).toNat : Int) := by omega
  rw [e]
  exact h.run y (b - a).toNat a fun z hz k => hn z hz ⟨k.1, by omega⟩
/-- the greatest edge up to x -/
theorem below_ex : ∀ (X : List Int) (x : Int), (∀ e ∈ X, x < e) ∨ ∃ e ∈ X, e ≤ x ∧ ∀ z ∈ X, ¬ (e < z ∧ z ≤ x)
  | [], _ => .inl fun _ h => nomatch h
  | a :: X, x => by
    rcases below_ex X x with h | ⟨e, he, hx, hm⟩
    · by_cases ha : a ≤ x
      · refine .inr ⟨a, List.mem_cons_self, ha, fun z hz k => ?_⟩
        rcases List.mem_cons.mp hz with rfl | hz
        · omega
        · have := h z hz; omega
      · refine .inl fun z hz => ?_
        rcases List.mem_cons.mp hz with rfl | hz
        · omega
        · exact h z hz
    · by_cases ha : a ≤ x ∧ e < a
      · refine .inr ⟨a, List.mem_cons_self, ha.1, fun z hz k => ?_⟩
        rcases List.mem_cons.mp hz with rfl | hz
        · omega
        · exact hm z hz ⟨by omega, k.2⟩
      · refine .inr ⟨e, List.mem_cons_of_mem _ he, hx, fun z hz k => ?_⟩
        rcases List.mem_cons.mp hz with rfl | hz
        · exact ha ⟨k.2, k.1⟩
        · exact hm z hz k
/-- columns are alike on all places if they are on the edges -/
theorem cols_iff {X Y : List Int} {t : Int → Int → Int} (hy : Edged Y (fun y x => t x y)) {F : List Int} (hF : ∀ e ∈ Y, e ∈ F) (x z : Int) : (Y.map (t x) = Y.map (t z)) ↔ (F.map (t x) = F.map (t z)) := by
  have all : Y.map (t x) = Y.map (t z) → ∀ y, t x y = t z y := fun h y => by
    rcases below_ex Y y with hl | ⟨e, he, h1, h2⟩
    · have a := hy.low y hl x
      have b := hy.low y hl z
      show t x y = t z y
      exact (show t x y = 0 from a).trans (show t z y = 0 from b).symm
    · have a : t x y = t x e := hy.span h1 h2 x
      have b : t z y = t z e := hy.span h1 h2 z
      rw [a, b]
      exact List.map_inj_left.mp h e he
  constructor
  · intro h
    exact List.map_congr_left fun y _ => all h y
  · intro h
    exact List.map_congr_left fun y hy' => List.map_inj_left.mp h y (hF y hy')
theorem getD_map2 {X : List Int} {f : Int → List Int} {k : Nat} (h : k < X.length) : (X.map f).getD k [] = f (X.getD k 0) := by
  rw [List.getD_eq_getElem?_getD, List.getElem?_map, List.getD_eq_getElem?_getD, List.getElem?_eq_getElem h]
  rfl
theorem asc_get {X : List Int} (h : X.Pairwise (· < ·)) {j k : Nat} (hk : k < X.length) (hjk : j < k) : X.getD j 0 < X.getD k 0 := by
  have := List.pairwise_iff_getElem.mp h j k (by omega) hk hjk
  rw [List.getD_eq_getElem?_getD, List.getD_eq_getElem?_getD, List.getElem?_eq_getElem (by omega), List.getElem?_eq_getElem hk]
  exact this
theorem mem_get {X : List Int} {x : Int} (h : x ∈ X) : ∃ k, k < X.length ∧ X.getD k 0 = x := by
  obtain ⟨k, hk⟩ := List.mem_iff_getElem?.mp h
  obtain ⟨h1, rfl⟩ := List.getElem?_eq_some_iff.mp hk
  exact ⟨k, h1, by rw [List.getD_eq_getElem?_getD, List.getElem?_eq_getElem h1]; rfl⟩
theorem get_mem {X : List Int} {k : Nat} (h : k < X.length) : X.getD k 0 ∈ X := by
  rw [List.getD_eq_getElem?_getD, List.getElem?_eq_getElem h]
  exact List.getElem_mem h
theorem idx_asc {X : List Int} (h : X.Pairwise (· < ·)) (d : Nat) : ∀ {l : List Nat}, l.Pairwise (· < ·) → (∀ k ∈ l, k + d < X.length) → (l.map fun k => X.getD (k + d) 0).Pairwise (· < ·) := fun {l} hl hk => by
  rw [List.pairwise_map]
  exact hl.imp_of_mem fun ha hb hab => asc_get h (hk _ hb) (by omega)
theorem far_asc (lo hi : Int) : (farL2 lo hi).Pairwise (· < ·) := by
  unfold farL2
  rw [List.pairwise_map]
  exact List.pairwise_lt_range.imp fun h => by omega
theorem far_len (lo hi : Int) : (farL2 lo hi).length = (hi + 1 - (lo - 1)).toNat := by unfold farL2; rw [List.length_map, List.length_range]
theorem far_get {lo hi : Int} {i : Nat} (h : i < (farL2 lo hi).length) : (farL2 lo hi).getD i 0 = lo - 1 + (i : Int) := by
  rw [far_len] at h
  unfold farL2
  rw [List.getD_eq_getElem?_getD, List.getElem?_map, List.getElem?_range h]
  rfl
theorem far_mem {lo hi x : Int} (h1 : lo - 1 ≤ x) (h2 : x ≤ hi) : x ∈ farL2 lo hi := by
  unfold farL2
  exact List.mem_map.mpr ⟨(x - (lo - 1)).toNat, List.mem_range.mpr (by omega), by omega⟩
/-- the place before an edge has the colours of the edge before it -/
theorem edge_before {X : List Int} {t : Int → Int → Int} (hx : Edged X t) {k : Nat} (hk : k < X.length) (y : Int) : t (X.getD k 0 - 1) y = t (X.getD (prv X.length k) 0) y := by
  have between : ∀ {j : Nat}, j < X.length → ∀ e ∈ X, X.getD j 0 < e → ∀ m, m = j + 1 → (m < X.length → X.getD m 0 ≤ e) := fun {j} hj e he hlt m hm hml => by
    obtain ⟨i, hi, rfl⟩ := mem_get he
    have hji : j < i := by
      rcases Nat.lt_trichotomy j i with z | z | z
      · exact z
      · subst z; omega
      · have := asc_get hx.asc hj z; omega
    rcases Nat.lt_or_eq_of_le (show m ≤ i by omega) with z | z
    · exact Int.le_of_lt (asc_get hx.asc hi z)
    · rw [z]; exact Int.le_refl _
  by_cases h0 : k = 0
  · subst h0
    have e1 : prv X.length 0 = X.length - 1 := by unfold prv; rw [if_pos rfl]
    rw [e1]
    have a := hx.low (X.getD 0 0 - 1) (fun e he => by
      obtain ⟨i, hi, rfl⟩ := mem_get he
      rcases Nat.eq_zero_or_pos i with z | z
      · subst z; omega
      · have := asc_get hx.asc hi z; omega) y
    have b := hx.top (X.getD (X.length - 1) 0) (fun e he => by
      obtain ⟨i, hi, rfl⟩ := mem_get he
      rcases Nat.lt_or_eq_of_le (show i ≤ X.length - 1 by omega) with z | z
      · exact Int.le_of_lt (asc_get hx.asc (by omega) z)
      · rw [z]; exact Int.le_refl _) y
    rw [a, b]
  · have e1 : prv X.length k = k - 1 := by unfold prv; rw [if_neg h0]
    rw [e1]
    have hlt := asc_get hx.asc hk (show k - 1 < k by omega)
    refine hx.span (by omega) (fun e he z => ?_) y
    have := between (j := k - 1) (by omega) e he z.1 k (by omega) hk
    omega
theorem axis_cells {X Y : List Int} {t : Int → Int → Int} {lo hi : Int} (hx : Edged X t) (hy : Edged Y (fun y x => t x y)) (hX : ∀ e ∈ X, lo ≤ e ∧ e ≤ hi) (hY : ∀ e ∈ Y, lo ≤ e ∧ e ≤ hi) :
    ((unl (X.map fun x => Y.map (t x))).map fun k => X.getD k 0) = (chg (farL2 lo hi).length (colsF (farL2 lo hi) t)).map fun i => (farL2 lo hi).getD (i + 1) 0 := by
  obtain ⟨F, hF⟩ : ∃ F : List Int, F = farL2 lo hi := ⟨_, rfl⟩
  have hFY : ∀ e ∈ Y, e ∈ F := fun e he => by rw [hF]; exact far_mem (by have := hY e he; omega) (hY e he).2
  have cU : ∀ k, k < X.length → (k ∈ unl (X.map fun x => Y.map (t x)) ↔ F.map (t (X.getD k 0)) ≠ F.map (t (X.getD k 0 - 1))) := fun k hk => by
    have e1 : ((X.map fun x => Y.map (t x)).getD k []) = Y.map (t (X.getD k 0)) := getD_map2 hk
    have hp : prv X.length k < X.length := by unfold prv; split <;> omega
    have e2 : ((X.map fun x => Y.map (t x)).getD (prv X.length k) []) = Y.map (t (X.getD (prv X.length k) 0)) := getD_map2 hp
    have e3 : F.map (t (X.getD (prv X.length k) 0)) = F.map (t (X.getD k 0 - 1)) := List.map_congr_left fun y _ => (edge_before hx hk y).symm
    unfold unl
    rw [List.mem_filter, List.mem_range, List.length_map, e1, e2]
    have iff := cols_iff (X := X) hy hFY (X.getD k 0) (X.getD (prv X.length k) 0)
    constructor
    · rintro ⟨_, h⟩ z
      rw [← e3, ← iff] at z
      rw [decide_eq_true z] at h
      cases h
    · intro h
      refine ⟨hk, ?_⟩
      rw [decide_eq_false (fun z => h (by rw [← e3, ← iff]; exact z))]
      rfl
  have cF : ∀ i, i + 1 < F.length → (i ∈ chg F.length (colsF F t) ↔ F.map (t (F.getD (i + 1) 0)) ≠ F.map (t (F.getD (i + 1) 0 - 1))) := fun i hi => by
    have e1 : (colsF F t).getD (i + 1) [] = F.map (t (F.getD (i + 1) 0)) := getD_map2 hi
    have e2 : (colsF F t).getD i [] = F.map (t (F.getD i 0)) := getD_map2 (by omega)
    have e3 : F.getD i 0 = F.getD (i + 1) 0 - 1 := by
      rw [hF] at hi ⊢
      rw [far_get hi, far_get (by omega)]
      push_cast
      omega
    unfold chg
    rw [List.mem_filter, List.mem_range, e1, e2, e3]
    constructor
    · rintro ⟨_, h⟩ z
      rw [decide_eq_true z.symm] at h
      cases h
    · intro h
      refine ⟨by omega, ?_⟩
      rw [decide_eq_false (fun z => h z.symm)]
      rfl
  rw [← hF]
  have ulen : ∀ k ∈ unl (X.map fun x => Y.map (t x)), k < X.length := fun k hk => by
    have := unl_lt hk
    rw [List.length_map] at this
    exact this
  refine asc_unique ?_ ?_ fun x => ?_
  · exact idx_asc hx.asc 0 (List.Pairwise.sublist List.filter_sublist List.pairwise_lt_range) ulen
  · exact idx_asc (by rw [hF]; exact far_asc lo hi) 1 (List.Pairwise.sublist List.filter_sublist List.pairwise_lt_range) fun k hk => chg_lt hk
  · rw [List.mem_map, List.mem_map]
    constructor
    · rintro ⟨k, hk, rfl⟩
      have hkl := ulen k hk
      have hb := hX _ (get_mem hkl)
      have hne := (cU k hkl).mp hk
      obtain ⟨i, hi⟩ : ∃ i : Nat, X.getD k 0 = lo + (i : Int) := ⟨(X.getD k 0 - lo).toNat, by omega⟩
      have hil : i + 1 < F.length := by rw [hF, far_len]; omega
      have e : F.getD (i + 1) 0 = X.getD k 0 := by
        rw [hF] at hil ⊢
        rw [far_get hil, hi]
        push_cast
        omega
      exact ⟨i, (cF i hil).mpr (by rw [e]; exact hne), e⟩
    · rintro ⟨i, hi, rfl⟩
      have hil := chg_lt hi
      have hne := (cF i hil).mp hi
      have hm : F.getD (i + 1) 0 ∈ X := by
        by_cases z : F.getD (i + 1) 0 ∈ X
        · exact z
        · exact absurd (List.map_congr_left fun y _ => hx.same _ z y) hne
      obtain ⟨k, hk, e⟩ := mem_get hm
      exact ⟨k, (cU k hk).mpr (by rw [e]; exact hne), e⟩
/-! spans as edges -/
theorem edged_of {sks : List Sk} {p q : List Int} {sp : Sk → Int × Int} {o : Sk → Int → Bool} {X : List Int} {t : Int → Int → Int} (hX : EdgesOk (sks.map sp) X) (ht : ∀ x y, t x y = lastC ((sks.filter fun s => inSp x (sp s) && o s y).map Sk.col)) : Edged X t := by
  have mem : ∀ s ∈ sks, (sp s).1 < (sp s).2 → (sp s).1 ∈ X ∧ (sp s).2 ∈ X := fun s hs h => by
    have := edges_mem (List.mem_map.mpr ⟨s, hs, rfl⟩ : sp s ∈ sks.map sp) h
    exact ⟨(hX.1 _).mpr this.1, (hX.1 _).mpr this.2⟩
  have none_of : ∀ x y, (∀ s ∈ sks, inSp x (sp s) = false) → t x y = 0 := fun x y h => by
    rw [ht, List.filter_eq_nil_iff.mpr (fun s hs => by rw [h s hs]; simp)]
    rfl
  refine ⟨hX.2, fun x hx y => ?_, fun x hx y => none_of x y fun s hs => ?_, fun x hx y => none_of x y fun s hs => ?_⟩
  · rw [ht, ht]
    congr 2
    refine List.filter_congr fun s hs => ?_
    congr 1
    unfold inSp
    by_cases h : (sp s).1 < (sp s).2
    · obtain ⟨m1, m2⟩ := mem s hs h
      have n1 : x ≠ (sp s).1 := fun z => hx (z ▸ m1)
      have n2 : x ≠ (sp s).2 := fun z => hx (z ▸ m2)
      have a : decide ((sp s).1 ≤ x) = decide ((sp s).1 ≤ x - 1) := by
        by_cases k : (sp s).1 ≤ x
        · rw [decide_eq_true k, decide_eq_true (by omega)]
        · rw [decide_eq_false k, decide_eq_false (by omega)]
      have b : decide (x < (sp s).2) = decide (x - 1 < (sp s).2) := by
        by_cases k : x < (sp s).2
        · rw [decide_eq_true k, decide_eq_true (by omega)]
        · rw [decide_eq_false k, decide_eq_false (by omega)]
      rw [a, b]
    · have z : ∀ c : Int, (decide ((sp s).1 ≤ c) && decide (c < (sp s).2)) = false := fun c => by
        by_cases k : (sp s).1 ≤ c
        · rw [decide_eq_false (p := c < (sp s).2) (by omega), Bool.and_false]
        · rw [decide_eq_false k, Bool.false_and]
      rw [z, z]
  · unfold inSp
    by_cases k : (sp s).1 ≤ x
    · by_cases h : (sp s).1 < (sp s).2
      · have := hx _ (mem s hs h).1; omega
      · rw [decide_eq_false (p := x < (sp s).2) (by omega), Bool.and_false]
    · rw [decide_eq_false k, Bool.false_and]
  · unfold inSp
    by_cases k : x < (sp s).2
    · by_cases h : (sp s).1 < (sp s).2
      · have := hx _ (mem s hs h).2; omega
      · rw [decide_eq_false (p := (sp s).1 ≤ x) (by omega), Bool.false_and]
    · rw [decide_eq_false (p := x < (sp s).2) k, Bool.and_false]
theorem edged_x (ss : List Sm) (p q : List Int) : Edged (exX ss p) (hitX ss p q) :=
  edged_of (p := p) (q := q) (sp := fun s => spanB p s.across) (o := fun s y => inSp y (spanB q s.down)) (edgeL_ok _) fun x y => rfl
theorem edged_y (ss : List Sm) (p q : List Int) : Edged (eyX ss q) (fun y x => hitX ss p q x y) :=
  edged_of (p := p) (q := q) (sp := fun s => spanB q s.down) (o := fun s x => inSp x (spanB p s.across)) (edgeL_ok _) fun y x => by
    unfold hitX hitL
    congr 2
    exact List.filter_congr fun s _ => by unfold stIn; exact Bool.and_comm _ _

/-! the amounts of strokes are small -/
structure BdS (k : Int) (b : Bd) : Prop where
  l : ∀ c ∈ b.lows, -k ≤ c.2 ∧ c.2 ≤ k
  h : ∀ c ∈ b.highs, -k ≤ c.2 ∧ c.2 ≤ k
theorem BdS.nar {k d : Int} {b : Bd} {lo hi : Cor} (h : BdS k b) (h1 : -k ≤ lo.2 + d ∧ lo.2 + d ≤ k) (h2 : -k ≤ hi.2 + d ∧ hi.2 + d ≤ k) : BdS k (U.nar b lo hi d) := by
  refine ⟨fun c hc => ?_, fun c hc => ?_⟩
  · rcases List.mem_append.mp hc with hc | hc
    · exact h.l c hc
    · rw [List.mem_singleton.mp hc]; exact h1
  · rcases List.mem_append.mp hc with hc | hc
    · exact h.h c hc
    · rw [List.mem_singleton.mp hc]; exact h2
theorem cor_mv {n k M d : Int} {c : Cor} (h : CorL n c) (h1 : -M ≤ d) (h2 : d ≤ M) (h3 : M + 3 ≤ k) : -k ≤ c.2 + d ∧ c.2 + d ≤ k := by
  obtain ⟨_, _, g1, g2⟩ := h
  omega
theorem tst_same {k : Int} {ar : Ar} {ax : Bool} {c e : Cor} (h1 : BdS k ar.1) (h2 : BdS k ar.2) : BdS k (U.tst ar ax c e).1 ∧ BdS k (U.tst ar ax c e).2 := by
  cases ax with
  | true => exact ⟨⟨h1.l, h1.h⟩, h2⟩
  | false => exact ⟨h1, ⟨h2.l, h2.h⟩⟩
theorem sk_small {a b k : Int} : ∀ (n : Nat) (M : Int) (ss : List Sm) (mv : Int × Int) (ar : Ar), okPL a b n ss → (-M ≤ mv.1 ∧ mv.1 ≤ M) → (-M ≤ mv.2 ∧ mv.2 ≤ M) → M + 1 + 2 * (n : Int) ≤ k → BdS k ar.1 → BdS k ar.2 → ∀ s ∈ skP ss mv ar, BdS k s.across ∧ BdS k s.down
  | 0, _, _, _, _, h, _, _, _, _, _ => h.elim
  | n + 1, M, ss, mv, ar, h, m1, m2, hk, b1, b2 => fun s hsk => by
    rw [skP_map] at hsk
    obtain ⟨st, hst, hsk⟩ := List.mem_flatMap.mp hsk
    have hok := h st hst
    push_cast at hk
    have h3 : M + 3 ≤ k := by omega
    cases st with
    | fill bx c =>
      rw [skS] at hsk
      rw [List.mem_singleton.mp hsk]
      obtain ⟨⟨k1, k2, k3, k4⟩, _⟩ := hok
      exact ⟨b1.nar (cor_mv k1 m1.1 m1.2 h3) (cor_mv k2 m1.1 m1.2 h3), b2.nar (cor_mv k3 m2.1 m2.2 h3) (cor_mv k4 m2.1 m2.2 h3)⟩
    | clip bx ss' =>
      rw [skS] at hsk
      obtain ⟨⟨k1, k2, k3, k4⟩, hq⟩ := hok
      exact sk_small n M ss' mv _ hq m1 m2 (by omega) (b1.nar (cor_mv k1 m1.1 m1.2 h3) (cor_mv k2 m1.1 m1.2 h3)) (b2.nar (cor_mv k3 m2.1 m2.2 h3) (cor_mv k4 m2.1 m2.2 h3)) s hsk
    | move dx dy ss' =>
      rw [skS] at hsk
      obtain ⟨d1, d2, d3, d4, hq⟩ := hok
      exact sk_small n (M + 2) ss' _ ar hq ⟨by dsimp only; omega, by dsimp only; omega⟩ ⟨by dsimp only; omega, by dsimp only; omega⟩ (by omega) b1 b2 s hsk
    | iff ax c e x y =>
      rw [skS] at hsk
      obtain ⟨k1, k2, k3, k4⟩ := hok
      rcases List.mem_append.mp hsk with hsk | hsk
      · exact sk_small n M x mv _ k3 m1 m2 (by omega) (tst_same b1 b2).1 (tst_same b1 b2).2 s hsk
      · exact sk_small n M y mv _ k4 m1 m2 (by omega) (tst_same b1 b2).1 (tst_same b1 b2).2 s hsk
theorem cv_near {vs : List Int} {c : Cor} {k lo hi : Int} (hv : ∀ x ∈ vs, lo ≤ x ∧ x ≤ hi) (h : CIn vs c) (hc : -k ≤ c.2 ∧ c.2 ≤ k) : lo - k ≤ cv vs c ∧ cv vs c ≤ hi + k := by
  obtain ⟨h1, h2⟩ := h
  have hm := hv _ (get_mem (X := vs) (k := c.1.toNat) (by omega))
  unfold cv
  omega
theorem span_near {vs : List Int} {b : Bd} {k lo hi : Int} (hv : ∀ x ∈ vs, lo ≤ x ∧ x ≤ hi) (hb : BdIn vs b) (hs : BdS k b) (hlt : (spanB vs b).1 < (spanB vs b).2) : (lo - k ≤ (spanB vs b).1 ∧ (spanB vs b).1 ≤ hi + k) ∧ (lo - k ≤ (spanB vs b).2 ∧ (spanB vs b).2 ≤ hi + k) := by
  unfold spanB at hlt ⊢
  by_cases ht : b.tests.all (hold vs) = true
  · rw [if_pos ht]
    obtain ⟨g1, g2, _, n1, n2, _⟩ := hb
    dsimp only
    obtain ⟨c, hc, e⟩ := List.mem_map.mp (maxL_mem (xs := b.lows.map (cv vs)) (by simpa using n1))
    obtain ⟨c', hc', e'⟩ := List.mem_map.mp (minL_mem (xs := b.highs.map (cv vs)) (by simpa using n2))
    rw [← e, ← e']
    exact ⟨cv_near hv (g1 c hc) (hs.l c hc), cv_near hv (g2 c' hc') (hs.h c' hc')⟩
  · rw [if_neg ht] at hlt
    exact absurd hlt (by decide)
theorem edges_near {sp : List (Int × Int)} {lo hi : Int} (h : ∀ x ∈ sp, x.1 < x.2 → (lo ≤ x.1 ∧ x.1 ≤ hi) ∧ (lo ≤ x.2 ∧ x.2 ≤ hi)) : ∀ e ∈ edgeL sp, lo ≤ e ∧ e ≤ hi := fun e he => by
  have h1 := ((edgeL_ok sp).1 e).mp he
  unfold edgesOf at h1
  obtain ⟨x, hx, hex⟩ := List.mem_flatMap.mp h1
  obtain ⟨hx1, hx2⟩ := List.mem_filter.mp hx
  have := h x hx1 (of_decide_eq_true hx2)
  simp only [List.mem_cons, List.not_mem_nil, or_false] at hex
  rcases hex with rfl | rfl
  · exact this.1
  · exact this.2
theorem drawn_near {a b : Int} {ss : List Sm} {p q : List Int} (h : okPL a b 4 ss) (hs : SetOk a b p q) (hp : ∀ x ∈ p, -3 ≤ x ∧ x ≤ 5) (hq : ∀ x ∈ q, -3 ≤ x ∧ x ≤ 5) : (∀ e ∈ exX ss p, -14 ≤ e ∧ e ≤ 20) ∧ ∀ e ∈ eyX ss q, -14 ≤ e ∧ e ≤ 20 := by
  obtain ⟨h1, h2, _⟩ := hs
  have hin := sk_in h1 h2 8 0 ss (0, 0) (unb, unb) (okP_up (by decide : 4 ≤ 8) h.ok) ⟨BdP.unb, BdP.unb⟩ ⟨by simp [unb], by simp [unb], by simp [unb], by simp [unb], by simp [unb], by simp [unb]⟩ (by decide)
  have u0 : BdS 9 unb := ⟨fun c hc => by simp [unb] at hc, fun c hc => by simp [unb] at hc⟩
  have hsm := sk_small (k := 9) 4 0 ss (0, 0) (unb, unb) h ⟨by decide, by decide⟩ ⟨by decide, by decide⟩ (by decide) u0 u0
  refine ⟨edges_near fun x hx hlt => ?_, edges_near fun x hx hlt => ?_⟩
  · obtain ⟨s, hs, rfl⟩ := List.mem_map.mp hx
    have := span_near hp (hin s hs).1 (hsm s hs).1 hlt
    have e : (if (true : Bool) = true then s.across else s.down) = s.across := rfl
    rw [e]
    omega
  · obtain ⟨s, hs, rfl⟩ := List.mem_map.mp hx
    have := span_near hq (hin s hs).2 (hsm s hs).2 hlt
    have e : (if (false : Bool) = true then s.across else s.down) = s.down := rfl
    rw [e]
    omega
/-! the two pictures are one -/
theorem range_getD {α : Type} (d : α) : ∀ l : List α, ((List.range l.length).map fun i => l.getD i d) = l := fun l => by
  refine List.ext_getElem (by simp) fun i h1 h2 => ?_
  simp at h1
  simp [List.getD_eq_getElem?_getD, List.getElem?_eq_getElem h1]
theorem cols_grid {X Y : List Int} {t : Int → Int → Int} : unl (colsOf X.length (Y.map fun y => X.map fun x => t x y)) = unl (X.map fun x => Y.map (t x)) := by
  cases hY : Y with
  | nil =>
    have e1 : colsOf X.length (([] : List Int).map fun y => X.map fun x => t x y) = [] := rfl
    rw [e1]
    have : ∀ k : Nat, (X.map fun x => ([] : List Int).map (t x)).getD k [] = [] := fun k => by
      rw [List.getD_eq_getElem?_getD, List.getElem?_map]
      cases X[k]? <;> rfl
    unfold unl
    symm
    rw [List.filter_eq_nil_iff.mpr (fun k _ => by rw [this, this]; simp)]
    rfl
  | cons y0 ys =>
    rw [← hY]
    have hn : ¬ (Y.map fun y => X.map fun x => t x y) = [] := by rw [hY]; simp
    unfold colsOf
    rw [if_neg hn]
    congr 1
    have e : X.map (fun x => Y.map (t x)) = ((List.range X.length).map fun i => X.getD i 0).map fun x => Y.map (t x) := by rw [range_getD]
    rw [e, List.map_map]
    refine List.map_congr_left fun i hi => ?_
    have hi := List.mem_range.mp hi
    rw [List.map_map]
    show Y.map _ = Y.map _
    refine List.map_congr_left fun y _ => ?_
    show (X.map fun x => t x y).getD i 0 = t (X.getD i 0) y
    rw [List.getD_eq_getElem?_getD, List.getElem?_map, List.getD_eq_getElem?_getD, List.getElem?_eq_getElem hi]
    rfl
theorem strM_cel {F : List Int} {t : Int → Int → Int} : strM F.length (celM F t) = colsF F t := by
  unfold strM celM colsF
  have e : F.map (fun x => F.map fun y => t x y) = ((List.range F.length).map fun i => F.getD i 0).map fun x => F.map (t x) := by rw [range_getD]
  rw [e, List.map_map]
  refine List.map_congr_left fun i hi => ?_
  have hi := List.mem_range.mp hi
  rw [List.map_map]
  show F.map _ = F.map _
  refine List.map_congr_left fun y _ => ?_
  show (F.map fun x => t x y).getD i 0 = t (F.getD i 0) y
  rw [List.getD_eq_getElem?_getD, List.getElem?_map, List.getD_eq_getElem?_getD, List.getElem?_eq_getElem hi]
  rfl
theorem cell_at {X Y : List Int} {t : Int → Int → Int} {i j : Nat} (hi : i < X.length) (hj : j < Y.length) : ((Y.map fun y => X.map fun x => t x y).getD j []).getD i 0 = t (X.getD i 0) (Y.getD j 0) := by
  rw [getD_map2 hj, List.getD_eq_getElem?_getD, List.getElem?_map, List.getElem?_eq_getElem hi, List.getD_eq_getElem?_getD (l := X), List.getElem?_eq_getElem hi]
  rfl
theorem colT_E (ss : List Sm) (p q : List Int) : colT ss p q = (unl ((exX ss p).map fun x => (eyX ss q).map (hitX ss p q x))).map fun k => (exX ss p).getD k 0 := by
  unfold colT frmA
  rw [colX_len2, gridX_hit]
  simp only [getD_fst, colX_fst]
  show List.map _ (unl (colsOf (exX ss p).length _)) = _
  rw [cols_grid]
  rfl
theorem rowT_E (ss : List Sm) (p q : List Int) : rowT ss p q = (unl ((eyX ss q).map fun y => (exX ss p).map fun x => hitX ss p q x y)).map fun k => (eyX ss q).getD k 0 := by
  unfold rowT
  rw [gridX_hit]
  simp only [getD_fst, colX_fst]
  rfl
theorem lookL_E (ss : List Sm) (p q : List Int) : lookL ss p q = (rowT ss p q).dropLast.map fun y => (colT ss p q).dropLast.map fun x => hitX ss p q x y := by
  rw [colT_E, rowT_E, ← List.map_dropLast, ← List.map_dropLast, List.map_map]
  unfold lookL frmG frmA
  rw [colX_len2, gridX_hit]
  show List.map _ (unl ((eyX ss q).map fun y => (exX ss p).map fun x => hitX ss p q x y)).dropLast = _
  refine List.map_congr_left fun j hj => ?_
  have hj := unl_lt (List.dropLast_subset _ hj)
  rw [List.length_map] at hj
  show List.map _ (unl (colsOf (exX ss p).length _)).dropLast = _
  rw [cols_grid]
  show _ = List.map _ (List.map _ _)
  rw [List.map_map]
  refine List.map_congr_left fun i hi => ?_
  have hi := unl_lt (List.dropLast_subset _ hi)
  rw [List.length_map] at hi
  exact cell_at hi hj
theorem cellG_E (F : List Int) (t : Int → Int → Int) : cellG F t = (cellR F t).dropLast.map fun y => (cellC F t).dropLast.map fun x => t x y := by
  unfold cellG cellR cellC
  rw [← List.map_dropLast, ← List.map_dropLast, List.map_map]
  refine List.map_congr_left fun j hj => ?_
  have hj := chg_lt (List.dropLast_subset _ hj)
  show _ = List.map _ (List.map _ _)
  rw [List.map_map]
  refine List.map_congr_left fun i hi => ?_
  have hi := chg_lt (List.dropLast_subset _ hi)
  exact cell_at hi hj
theorem cells_pic {ss : List Sm} {p q : List Int} {lo hi : Int} (hX : ∀ e ∈ exX ss p, lo ≤ e ∧ e ≤ hi) (hY : ∀ e ∈ eyX ss q, lo ≤ e ∧ e ≤ hi) : cellC (farL2 lo hi) (hitX ss p q) = colT ss p q ∧ cellR (farL2 lo hi) (hitX ss p q) = rowT ss p q ∧ cellG (farL2 lo hi) (hitX ss p q) = lookL ss p q := by
  have hc : cellC (farL2 lo hi) (hitX ss p q) = colT ss p q := by
    rw [colT_E]
    unfold cellC
    rw [strM_cel]
    exact (axis_cells (edged_x ss p q) (edged_y ss p q) hX hY).symm
  have hr : cellR (farL2 lo hi) (hitX ss p q) = rowT ss p q := by
    rw [rowT_E]
    exact (axis_cells (t := fun y x => hitX ss p q x y) (edged_y ss p q) (edged_x ss p q) hY hX).symm
  exact ⟨hc, hr, by rw [cellG_E, lookL_E, hc, hr]⟩
theorem tcol_hit (ss : List Sm) (p q : List Int) : tcol (laid ss p q) = hitX ss p q := by
  funext x y
  have h := topL_hit (ls := laid ss p q) (x := x) (y := y)
  rw [laid_hit] at h
  unfold tcol hitX lastC
  rw [← h]
  cases topL (laid ss p q) x y <;> rfl

/-! what is shown is not too big -/
theorem ft_fill : (Dt.str "fill").fit = true ∧ (Dt.str "fill").wt = 5 := ⟨by decide +kernel, by decide +kernel⟩
theorem ft_clip : (Dt.str "clip").fit = true ∧ (Dt.str "clip").wt = 5 := ⟨by decide +kernel, by decide +kernel⟩
theorem ft_move : (Dt.str "move").fit = true ∧ (Dt.str "move").wt = 5 := ⟨by decide +kernel, by decide +kernel⟩
theorem ft_if : (Dt.str "if").fit = true ∧ (Dt.str "if").wt = 3 := ⟨by decide +kernel, by decide +kernel⟩
theorem ft_ax (b : Bool) : (Dt.str (axS b)).fit = true ∧ (Dt.str (axS b)).wt = 2 := by cases b <;> exact ⟨by decide +kernel, by decide +kernel⟩
theorem ft_str {s : Str} : (Dt.str s).dep = 0 := by rw [Dt.dep]
theorem ft_int {i : Int} (h1 : -100000 ≤ i) (h2 : i ≤ 100000) : (Dt.int i).fit = true ∧ (Dt.int i).wt = 1 ∧ (Dt.int i).dep = 0 := ⟨by rw [Dt.fit]; exact decide_eq_true (Nat.lt_of_le_of_lt (by omega : i.natAbs ≤ 100000) (by decide)), by rw [Dt.wt], by rw [Dt.dep]⟩
theorem ft_cor {n : Int} {c : Cor} (hn : n ≤ 1000) (h : CorOk n c) : (eCor c).fit = true ∧ (eCor c).wt = 3 ∧ (eCor c).dep = 1 := by
  obtain ⟨h1, h2, h3, h4⟩ := h
  obtain ⟨f1, f2, f3⟩ := ft_int (i := c.1) (by omega) (by omega)
  obtain ⟨g1, g2, g3⟩ := ft_int (i := c.2) (by omega) (by omega)
  unfold eCor
  exact ⟨by rw [Dt.fit, fitAll, fitAll, fitAll, f1, g1]; rfl, by rw [Dt.wt, wtAll, wtAll, wtAll, f2, g2], by rw [Dt.dep, depAll, depAll, depAll, f3, g3]; rfl⟩
theorem ft_box {a b : Int} {x : Bx} (ha : a ≤ 1000) (hb : b ≤ 1000) (h : BxOk a b x) : (eBx x).fit = true ∧ (eBx x).wt = 13 ∧ (eBx x).dep = 2 := by
  obtain ⟨h1, h2, h3, h4⟩ := h
  obtain ⟨f1, f2, f3⟩ := ft_cor ha h1
  obtain ⟨g1, g2, g3⟩ := ft_cor ha h2
  obtain ⟨i1, i2, i3⟩ := ft_cor hb h3
  obtain ⟨j1, j2, j3⟩ := ft_cor hb h4
  unfold eBx
  exact ⟨by rw [Dt.fit, fitAll, fitAll, fitAll, fitAll, fitAll, f1, g1, i1, j1]; rfl, by rw [Dt.wt, wtAll, wtAll, wtAll, wtAll, wtAll, f2, g2, i2, j2], by rw [Dt.dep, depAll, depAll, depAll, depAll, depAll, f3, g3, i3, j3]; rfl⟩
theorem fit_prog {a b : Int} (ha : a ≤ 1000) (hb : b ≤ 1000) : ∀ (n : Nat) (ss : List Sm), okP a b n ss → fitAll (ePg ss) = true ∧ wtAll (ePg ss) ≤ 20 * szP ss ∧ depAll (ePg ss) ≤ 2 * n + 1
  | 0, _, h => h.elim
  | n + 1, ss, h => by
    have one : ∀ s ∈ ss, (eSt s).fit = true ∧ (eSt s).wt ≤ 20 * szS s ∧ (eSt s).dep ≤ 2 * n + 3 := fun s hs => by
      have hok := h s hs
      cases s with
      | fill bx c =>
        obtain ⟨hx, c0, c1⟩ := hok
        obtain ⟨f1, f2, f3⟩ := ft_box ha hb hx
        obtain ⟨g1, g2, g3⟩ := ft_int (i := c) (by omega) (by omega)
        rw [eSt, szS]
        refine ⟨by rw [Dt.fit, fitAll, fitAll, fitAll, fitAll, ft_fill.1, f1, g1]; rfl, ?_, ?_⟩
        · rw [Dt.wt, wtAll, wtAll, wtAll, wtAll, ft_fill.2, f2, g2]; omega
        · rw [Dt.dep, depAll, depAll, depAll, depAll, ft_str, f3, g3]; omega
      | clip bx ts =>
        obtain ⟨hx, hq⟩ := hok
        obtain ⟨f1, f2, f3⟩ := ft_box ha hb hx
        obtain ⟨g1, g2, g3⟩ := fit_prog ha hb n ts hq
        rw [eSt, szS]
        refine ⟨by rw [Dt.fit, fitAll, fitAll, fitAll, fitAll, ft_clip.1, f1, Dt.fit, g1]; rfl, ?_, ?_⟩
        · rw [Dt.wt, wtAll, wtAll, wtAll, wtAll, ft_clip.2, f2, Dt.wt]; omega
        · rw [Dt.dep, depAll, depAll, depAll, depAll, ft_str, f3, Dt.dep]; omega
      | move dx dy ts =>
        obtain ⟨d1, d2, d3, d4, hq⟩ := hok
        obtain ⟨f1, f2, f3⟩ := ft_int (i := dx) (by omega) (by omega)
        obtain ⟨i1, i2, i3⟩ := ft_int (i := dy) (by omega) (by omega)
        obtain ⟨g1, g2, g3⟩ := fit_prog ha hb n ts hq
        rw [eSt, szS]
        refine ⟨by rw [Dt.fit, fitAll, fitAll, fitAll, fitAll, fitAll, ft_move.1, f1, i1, Dt.fit, g1]; rfl, ?_, ?_⟩
        · rw [Dt.wt, wtAll, wtAll, wtAll, wtAll, wtAll, ft_move.2, f2, i2, Dt.wt]; omega
        · rw [Dt.dep, depAll, depAll, depAll, depAll, depAll, ft_str, f3, i3, Dt.dep]; omega
      | iff ax c e x y =>
        obtain ⟨k1, k2, k3, k4⟩ := hok
        have hn : (if ax = true then a else b) ≤ 1000 := by split <;> assumption
        obtain ⟨f1, f2, f3⟩ := ft_cor hn k1
        obtain ⟨i1, i2, i3⟩ := ft_cor hn k2
        obtain ⟨g1, g2, g3⟩ := fit_prog ha hb n x k3
        obtain ⟨j1, j2, j3⟩ := fit_prog ha hb n y k4
        rw [eSt, szS]
        refine ⟨by rw [Dt.fit, fitAll, fitAll, fitAll, fitAll, fitAll, fitAll, fitAll, ft_if.1, (ft_ax ax).1, f1, i1, Dt.fit, g1, Dt.fit, j1]; rfl, ?_, ?_⟩
        · rw [Dt.wt, wtAll, wtAll, wtAll, wtAll, wtAll, wtAll, wtAll, ft_if.2, (ft_ax ax).2, f2, i2, Dt.wt, Dt.wt]; omega
        · rw [Dt.dep, depAll, depAll, depAll, depAll, depAll, depAll, depAll, ft_str, ft_str, f3, i3, Dt.dep, Dt.dep]; omega
    clear h
    induction ss with
    | nil => rw [ePg]; exact ⟨by rw [fitAll], by rw [wtAll]; omega, by rw [depAll]; omega⟩
    | cons s ss ih =>
      obtain ⟨i1, i2, i3⟩ := ih fun t ht => one t (List.mem_cons_of_mem _ ht)
      obtain ⟨f1, f2, f3⟩ := one s List.mem_cons_self
      rw [ePg, szP]
      exact ⟨by rw [fitAll, f1, i1]; rfl, by rw [wtAll]; omega, by rw [depAll]; omega⟩
theorem fit_all {a b : Int} {ss : List Sm} {p q : List Int} (hs : SetOk a b p q) (h : okP a b 8 ss) (hz : szP ss ≤ 1000) (hp : ∀ x ∈ p, -100000 ≤ x ∧ x ≤ 100000) (hq : ∀ x ∈ q, -100000 ≤ x ∧ x ≤ 100000) : Fit (.lst [eFr a b, .tup (ePg ss), eSet p q]) := by
  obtain ⟨l1, l2, f1, f2, f3, f4⟩ := hs
  obtain ⟨g1, g2, g3⟩ := fit_prog (by omega) (by omega) 8 ss h
  have near : ∀ {l : List Int}, (∀ x ∈ l, -100000 ≤ x ∧ x ≤ 100000) → ∀ x ∈ l, x.natAbs < 10 ^ 60 := fun hl x hx => by
    have := hl x hx
    exact Nat.lt_of_le_of_lt (by omega : x.natAbs ≤ 100000) (by decide)
  have s := fit_eSet (near hp) (near hq) (by omega) (by omega)
  have sw : (eSet p q).wt = p.length + q.length + 3 := by unfold eSet; rw [Dt.wt, wtAll, wtAll, wtAll, eI, eI, Dt.wt, Dt.wt, wtAll_ints, wtAll_ints]; omega
  obtain ⟨i1, i2, i3⟩ := ft_int (i := a) (by omega) (by omega)
  obtain ⟨j1, j2, j3⟩ := ft_int (i := b) (by omega) (by omega)
  have e : eFr a b = .tup [.int a, .int b] := rfl
  rw [e]
  refine ⟨by rw [Dt.fit, fitAll, fitAll, fitAll, fitAll, s.fit, Dt.fit, Dt.fit, g1, fitAll, fitAll, fitAll, i1, j1]; rfl, ?_, ?_⟩
  · rw [Dt.wt, wtAll, wtAll, wtAll, wtAll, sw, Dt.wt, Dt.wt, wtAll, wtAll, wtAll, i2, j2]; omega
  · have s3 : (eSet p q).dep = 2 := by rw [Dt.dep, depAll, depAll, depAll, Dt.dep, Dt.dep, depAll_ints, depAll_ints]; rfl
    rw [Dt.dep, depAll, depAll, depAll, depAll, s3, Dt.dep, Dt.dep, depAll, depAll, depAll, i3, j3]; omega
theorem fit_ints : ∀ {l : List Int}, (∀ x ∈ l, -100000 ≤ x ∧ x ≤ 100000) → fitAll (l.map Dt.int) = true
  | [], _ => by simp [fitAll]
  | x :: l, h => by
    have hx := h x List.mem_cons_self
    rw [List.map_cons, fitAll, (ft_int hx.1 hx.2).1, fit_ints fun y hy => h y (List.mem_cons_of_mem _ hy)]
    rfl
theorem fit_rows : ∀ {G : List (List Int)}, (∀ r ∈ G, r.length ≤ 100 ∧ ∀ x ∈ r, -100000 ≤ x ∧ x ≤ 100000) → fitAll (G.map eI) = true ∧ wtAll (G.map eI) ≤ 101 * G.length ∧ depAll (G.map eI) ≤ 1
  | [], _ => ⟨by simp [fitAll], by simp [wtAll], by simp [depAll]⟩
  | r :: G, h => by
    obtain ⟨h1, h2, h3⟩ := fit_rows fun y hy => h y (List.mem_cons_of_mem _ hy)
    obtain ⟨hr, hx⟩ := h r List.mem_cons_self
    refine ⟨?_, ?_, ?_⟩
    · rw [List.map_cons, fitAll, h1, eI, Dt.fit, fit_ints hx]; rfl
    · rw [List.map_cons, wtAll, eI, Dt.wt, wtAll_ints, List.length_cons]; omega
    · rw [List.map_cons, depAll, eI, Dt.dep, depAll_ints]; omega
theorem fit_pic {C R : List Int} {G : List (List Int)} (hC : ∀ x ∈ C, -100000 ≤ x ∧ x ≤ 100000) (hR : ∀ x ∈ R, -100000 ≤ x ∧ x ≤ 100000) (hG : ∀ r ∈ G, r.length ≤ 100 ∧ ∀ x ∈ r, -100000 ≤ x ∧ x ≤ 100000) (lC : C.length ≤ 100) (lR : R.length ≤ 100) (lG : G.length ≤ 100) : Fit (dPic C R G) ∧ Fit (.lst (G.map eI)) := by
  obtain ⟨h1, h2, h3⟩ := fit_rows hG
  refine ⟨⟨?_, ?_, ?_⟩, ⟨?_, ?_, ?_⟩⟩
  · unfold dPic; rw [Dt.fit, fitAll, fitAll, fitAll, fitAll, eI, eI, Dt.fit, Dt.fit, Dt.fit, fit_ints hC, fit_ints hR, h1]; rfl
  · unfold dPic; rw [Dt.wt, wtAll, wtAll, wtAll, wtAll, eI, eI, Dt.wt, Dt.wt, Dt.wt, wtAll_ints, wtAll_ints]; omega
  · unfold dPic; rw [Dt.dep, depAll, depAll, depAll, depAll, eI, eI, Dt.dep, Dt.dep, Dt.dep, depAll_ints, depAll_ints]; omega
  · rw [Dt.fit]; exact h1
  · rw [Dt.wt]; omega
  · rw [Dt.dep]; omega
theorem sk_col {a b : Int} : ∀ (n : Nat) (ss : List Sm) (mv : Int × Int) (ar : Ar), okP a b n ss → ∀ s ∈ skP ss mv ar, 0 ≤ s.col ∧ s.col ≤ 9
  | 0, _, _, _, h => h.elim
  | n + 1, ss, mv, ar, h => fun s hsk => by
    rw [skP_map] at hsk
    obtain ⟨st, hst, hsk⟩ := List.mem_flatMap.mp hsk
    have hok := h st hst
    cases st with
    | fill bx c => rw [skS] at hsk; rw [List.mem_singleton.mp hsk]; exact hok.2
    | clip bx ss' => rw [skS] at hsk; exact sk_col n ss' mv _ hok.2 s hsk
    | move dx dy ss' => rw [skS] at hsk; exact sk_col n ss' _ ar hok.2.2.2.2 s hsk
    | iff ax c e x y =>
      rw [skS] at hsk
      rcases List.mem_append.mp hsk with hsk | hsk
      · exact sk_col n x mv _ hok.2.2.1 s hsk
      · exact sk_col n y mv _ hok.2.2.2 s hsk
theorem hit_col {a b : Int} {n : Nat} {ss : List Sm} {p q : List Int} (h : okP a b n ss) (x y : Int) : 0 ≤ hitX ss p q x y ∧ hitX ss p q x y ≤ 9 := by
  unfold hitX lastC
  cases hl : (hitL (skP ss (0, 0) (unb, unb)) p q x y).getLast? with
  | none => exact ⟨by decide, by decide⟩
  | some c =>
    have hm := List.mem_of_getLast? hl
    unfold hitL at hm
    obtain ⟨s, hs, rfl⟩ := List.mem_map.mp hm
    exact sk_col n ss _ _ h s (List.mem_filter.mp hs).1
theorem exX_len (ax : Bool) (ss : List Sm) (vs : List Int) : (edgeL (spansA ax (skP ss (0, 0) (unb, unb)) vs)).length ≤ 2 * szP ss := by
  have := edgeL_len (spansA ax (skP ss (0, 0) (unb, unb)) vs)
  have h := skP_len ss (0, 0) (unb, unb)
  unfold spansA at this ⊢
  rw [List.length_map] at this
  omega
theorem pic_small {a b : Int} {ss : List Sm} {p q : List Int} {lo hi : Int} (h : PicOk a b ss p q) (hl : -100000 ≤ lo) (hh : hi ≤ 100000) (hX : ∀ e ∈ exX ss p, lo ≤ e ∧ e ≤ hi) (hY : ∀ e ∈ eyX ss q, lo ≤ e ∧ e ≤ hi) : (lookL ss p q).length ≤ 24 ∧ (∀ r ∈ lookL ss p q, r.length ≤ 24) ∧ (colT ss p q).length ≤ 24 ∧ (rowT ss p q).length ≤ 24 ∧ Fit (dPic (colT ss p q) (rowT ss p q) (lookL ss p q)) ∧ Fit (.lst ((lookL ss p q).map eI)) := by
  obtain ⟨hok, hsz, _⟩ := h
  have lx := exX_len true ss p
  have ly := exX_len false ss q
  have lC : (colT ss p q).length ≤ 24 := by
    rw [colT_E, List.length_map]
    have := unl_len ((exX ss p).map fun x => (eyX ss q).map (hitX ss p q x))
    rw [List.length_map] at this
    have e : (exX ss p).length = (edgeL (spansA true (skP ss (0, 0) (unb, unb)) p)).length := rfl
    omega
  have lR : (rowT ss p q).length ≤ 24 := by
    rw [rowT_E, List.length_map]
    have := unl_len ((eyX ss q).map fun y => (exX ss p).map fun x => hitX ss p q x y)
    rw [List.length_map] at this
    have e : (eyX ss q).length = (edgeL (spansA false (skP ss (0, 0) (unb, unb)) q)).length := rfl
    omega
  have lG : (lookL ss p q).length ≤ 24 := by rw [lookL_E, List.length_map, List.length_dropLast]; omega
  have lr : ∀ r ∈ lookL ss p q, r.length ≤ 24 := fun r hr => by
    rw [lookL_E] at hr
    obtain ⟨y, _, rfl⟩ := List.mem_map.mp hr
    rw [List.length_map, List.length_dropLast]; omega
  have bC : ∀ x ∈ colT ss p q, -100000 ≤ x ∧ x ≤ 100000 := fun x hx => by
    rw [colT_E] at hx
    obtain ⟨k, hk, rfl⟩ := List.mem_map.mp hx
    have hk := unl_lt hk
    rw [List.length_map] at hk
    have := hX _ (get_mem hk)
    omega
  have bR : ∀ x ∈ rowT ss p q, -100000 ≤ x ∧ x ≤ 100000 := fun x hx => by
    rw [rowT_E] at hx
    obtain ⟨k, hk, rfl⟩ := List.mem_map.mp hx
    have hk := unl_lt hk
    rw [List.length_map] at hk
    have := hY _ (get_mem hk)
    omega
  have bG : ∀ r ∈ lookL ss p q, r.length ≤ 100 ∧ ∀ x ∈ r, -100000 ≤ x ∧ x ≤ 100000 := fun r hr => ⟨by have := lr r hr; omega, fun x hx => by
    rw [lookL_E] at hr
    obtain ⟨y, _, rfl⟩ := List.mem_map.mp hr
    obtain ⟨z, _, rfl⟩ := List.mem_map.mp hx
    have := hit_col (p := p) (q := q) hok z y
    omega⟩
  obtain ⟨f1, f2⟩ := fit_pic bC bR bG (by omega) (by omega) (by omega)
  exact ⟨lG, lr, lC, lR, f1, f2⟩
/-! rows and numbers -/
theorem rowsN_lay : ∀ (G : List (List Int)) (ws : List Int), PyData.canLayAll0 (pyAll (G.map eI ++ ws.map Dt.int)) = true ∧ depAll (G.map eI ++ ws.map Dt.int) ≤ 1
  | [], ws => by
    rw [List.map_nil, List.nil_append]
    exact ⟨canLay_ints .., by rw [depAll_ints]; exact Nat.zero_le _⟩
  | x :: l, ws => by
    obtain ⟨h1, h2⟩ := rowsN_lay l ws
    refine ⟨?_, ?_⟩
    · rw [List.map_cons, List.cons_append, pyAll, PyData.canLayAll0, h1, Dt.py, PyData.canLay0, canLay_ints]; rfl
    · rw [List.map_cons, List.cons_append, depAll, Dt.dep, depAll_ints]; omega
theorem shaped_rowsN {G : List (List Int)} {ws : List Int} : SeqAt.shaped (Dt.lst (G.map eI ++ ws.map Dt.int)).py = true := by
  obtain ⟨h1, h2⟩ := rowsN_lay G ws
  unfold SeqAt.shaped
  rw [dep_py, Dt.dep, Dt.py, PyData.canLay0, h1]
  simp only [Bool.true_and, decide_eq_true_eq]
  omega

def g__law_right (ds : List Dt) (d : Dt) : Prop := ∃ (a b : Int) (ss : List Sm) (p q : List Int), ds = [eFr a b, .tup (ePg ss), eSet p q] ∧ okPL a b 4 ss ∧ szP ss ≤ 12 ∧ SetOk a b p q ∧ (∀ x ∈ p, -3 ≤ x ∧ x ≤ 5) ∧ (∀ x ∈ q, -3 ≤ x ∧ x ≤ 5) ∧ d = .bl true
theorem ok__law_right (T : Txt K mg fa fd) : FnG P w K mg base CX0 26 (fa 67) (fd 67) ["home", "layout", "values"] (spD g__law_right) := by
  refine fn_D T.d__law_right.F sc__law_right (fun ds d h => by obtain ⟨_, _, _, _, _, rfl, _⟩ := h; rfl) (fun cdv Γ below s B H vs ds d Q E hg hr e ra hd ret => ?_)
  obtain ⟨a, b, ss, p, q, rfl, hokL, hsz, hset, hp, hq, rfl⟩ := hd
  rcases ra with _ | ⟨r0, _ | ⟨r1, _ | ⟨r2, _ | _⟩⟩⟩
  rename_i v0 v1 v2
  have hu := hr.units
  refine ⟨_, (pss_cons (ps_set (i := 3) sc__law_right.nd rfl (by first | exact Or.inl rfl | exact Or.inr rfl) (pe_callB (c_repr hg hu) rfl T.n_repr (by decide +kernel) (pa_cons (pe_lst (pa_cons (pv 0) (pa_cons (pv 1) (pa_cons (pv 2) pa_nil)))) pa_nil))) (pss_cons (ps_set (i := 4) sc__law_right.nd rfl (by first | exact Or.inl rfl | exact Or.inr rfl) (pe_go (ok__law_picture T) hg (hr.mono (by decide)) rfl T.d__law_picture.at_ T.d__law_picture.F.kp (bn__law_picture T) pass0 (pa_cons (pe_go (ok__law_laid T) hg (hr.mono (by decide)) rfl T.d__law_laid.at_ T.d__law_laid.F.kp (bn__law_laid T) pass0 (pa_cons (pv 1) (pa_cons (pv 2) pa_nil))) (pa_cons (pe_un un_neg pe_int) (pa_cons pe_int pa_nil))))) (pss_cons (ps_set (i := 5) sc__law_right.nd rfl (by first | exact Or.inl rfl | exact Or.inr rfl) (pe_go (ok_picture T) hg (hr.mono (by decide)) rfl T.d_picture.at_ T.d_picture.F.kp (bn_picture T) pass0 (pa_cons (pv 0) (pa_cons (pv 1) (pa_cons (pv 2) pa_nil))))) (pss_cons (ps_if (pt_cmpR (k_ne (K := K) rfl hu) (pe_callB (c_repr hg hu) rfl T.n_repr (by decide +kernel) (pa_cons (pv 5) pa_nil)) (pe_callB (c_repr hg hu) rfl T.n_repr (by decide +kernel) (pa_cons (pv 4) pa_nil)) (nomark _)) (pss_one (ps_ret pe_bl)) pss_nil) (pss_cons (ps_for PassesOwn.never rfl (pi_range1 rfl T.n_range (pa_cons pe_int pa_nil)) (pg_name (i := 6) sc__law_right.nd rfl (by first | exact Or.inl rfl | exact Or.inr rfl)) (pss_one (ps_expr (pe_bm PySem.F.plainAttrs_list PySem.F.slot_list_append PySem.F.type_list_append mt_append (pe_ix (k_ix (K := K) rfl) (pv 5) (pv 6) (fun _ _ => rfl)) (pa_cons (pe_op op_addA pe_int (pv 6)) pa_nil))))) (pss_cons (ps_for PassesOwn.never rfl (pi_range1 rfl T.n_range (pa_cons (pe_callB (k_len (K := K) rfl) rfl T.n_len (by decide +kernel) (pa_cons (pe_ix (k_ix (K := K) rfl) (pv 4) pe_int (fun _ _ => rfl)) pa_nil)) pa_nil)) (pg_name (i := 6) sc__law_right.nd rfl (by first | exact Or.inl rfl | exact Or.inr rfl)) (pss_one (ps_expr (pe_bm PySem.F.plainAttrs_list PySem.F.slot_list_append PySem.F.type_list_append mt_append (pe_ix (k_ix (K := K) rfl) (pe_ix (k_ix (K := K) rfl) (pv 5) pe_int (fun _ _ => rfl)) (pv 6) (fun _ _ => rfl)) (pa_cons (pe_op op_addA pe_int (pv 6)) pa_nil))))) (pss_cons (ps_setLc (i := 7) (own := [("at", 6)]) (g := (gName 6)) (tt := tYes) rfl sc__law_right.nd rfl rfl (sw_true rfl rfl rfl (by decide +kernel)) (pi_range1 rfl T.n_range (pa_cons (pe_callB (k_len (K := K) rfl) rfl T.n_len (by decide +kernel) (pa_cons (pe_ix (k_ix (K := K) rfl) (pv 4) pe_int (fun _ _ => rfl)) pa_nil)) pa_nil)) (blkOk_by (N := ["home", "layout", "values", "kept", "due", "told", "at", "rows"]) (sc := defScope s__law_right) (by decide +kernel)) (fun _ _ _ _ _ => (pg_name (i := 6) sc__law_right.nd rfl (by first | exact Or.inl rfl | exact Or.inr rfl))) (fun _ _ _ _ _ => pts_nil) (fun _ _ _ _ _ => (pe_op op_addA (pe_ix (k_ix (K := K) rfl) (pe_ix (k_ix (K := K) rfl) (pv 4) pe_int (fun _ _ => rfl)) (pv 6) (fun _ _ => rfl)) (pe_lst (pa_cons (pe_op op_addA pe_int (pv 6)) pa_nil))))) (pss_cons (ps_if (pt_cmpR (k_ne (K := K) rfl hu) (pe_ix (k_ix (K := K) rfl) (pv 5) pe_int (fun _ _ => rfl)) (pe_op op_addA (pv 7) (pe_lst (pa_cons pe_int pa_nil))) (nomark _)) (pss_one (ps_ret pe_bl)) pss_nil) (pss_cons (ps_if (pt_cmpR (k_ne (K := K) rfl hu) (pe_lst (pa_cons (pe_ix (k_ix (K := K) rfl) (pv 5) pe_int (fun _ _ => rfl)) (pa_cons (pe_ix (k_ix (K := K) rfl) (pv 5) pe_int (fun _ _ => rfl)) pa_nil))) (pe_lst (pa_cons (pe_op op_addA (pe_ix (k_ix (K := K) rfl) (pv 4) pe_int (fun _ _ => rfl)) (pe_lst (pa_cons pe_int pa_nil))) (pa_cons (pe_op op_addA (pe_ix (k_ix (K := K) rfl) (pv 4) pe_int (fun _ _ => rfl)) (pe_lst (pa_cons pe_int pa_nil))) pa_nil))) (nomark _)) (pss_one (ps_ret pe_bl)) pss_nil) (pss_cons (ps_if (pt_cmpR (k_ne (K := K) rfl hu) (pe_callB (c_repr hg hu) rfl T.n_repr (by decide +kernel) (pa_cons (pe_goN (ok_picture T) hg (hr.mono (by decide)) rfl T.d_picture.at_ T.d_picture.F.kp (kb_picture_0 T) pass0 (pk_cons (pv 2) (pk_cons (pv 1) (pk_cons (pv 0) pk_nil)))) pa_nil)) (pe_callB (c_repr hg hu) rfl T.n_repr (by decide +kernel) (pa_cons (pv 4) pa_nil)) (nomark _)) (pss_one (ps_ret pe_bl)) pss_nil) (pss_cons (ps_set (i := 5) sc__law_right.nd rfl (by first | exact Or.inl rfl | exact Or.inr rfl) (pe_go (ok_look T) hg (hr.mono (by decide)) rfl T.d_look.at_ T.d_look.F.kp (bn_look T) pass0 (pa_cons (pv 0) (pa_cons (pv 1) (pa_cons (pv 2) pa_nil))))) (pss_cons (ps_if (pt_cmpR (k_ne (K := K) rfl hu) (pe_callB (c_repr hg hu) rfl T.n_repr (by decide +kernel) (pa_cons (pv 5) pa_nil)) (pe_callB (c_repr hg hu) rfl T.n_repr (by decide +kernel) (pa_cons (pe_ix (k_ix (K := K) rfl) (pv 4) pe_int (fun _ _ => rfl)) pa_nil)) (nomark _)) (pss_one (ps_ret pe_bl)) pss_nil) (pss_cons (ps_for PassesOwn.never rfl (pi_range1 rfl T.n_range (pa_cons (pe_callB (k_len (K := K) rfl) rfl T.n_len (by decide +kernel) (pa_cons (pe_ix (k_ix (K := K) rfl) (pv 4) pe_int (fun _ _ => rfl)) pa_nil)) pa_nil)) (pg_name (i := 6) sc__law_right.nd rfl (by first | exact Or.inl rfl | exact Or.inr rfl)) (pss_one (ps_expr (pe_bm PySem.F.plainAttrs_list PySem.F.slot_list_append PySem.F.type_list_append mt_append (pe_ix (k_ix (K := K) rfl) (pv 5) (pv 6) (fun _ _ => rfl)) (pa_cons (pe_op op_addA pe_int (pv 6)) pa_nil))))) (pss_cons (ps_if (pt_cmpR (k_ne (K := K) rfl hu) (pv 5) (pe_lc (own := [("at", 6)]) (g := (gName 6)) (tt := tYes) rfl sc__law_right.nd (pi_range1 rfl T.n_range (pa_cons (pe_callB (k_len (K := K) rfl) rfl T.n_len (by decide +kernel) (pa_cons (pe_ix (k_ix (K := K) rfl) (pv 4) pe_int (fun _ _ => rfl)) pa_nil)) pa_nil)) (blkOk_by (N := ["home", "layout", "values", "kept", "due", "told", "at", "rows"]) (sc := defScope s__law_right) (by decide +kernel)) (fun _ _ _ _ _ => (pg_name (i := 6) sc__law_right.nd rfl (by first | exact Or.inl rfl | exact Or.inr rfl))) (fun _ _ _ _ _ => pts_nil) (fun _ _ _ _ _ => (pe_op op_addA (pe_ix (k_ix (K := K) rfl) (pe_ix (k_ix (K := K) rfl) (pv 4) pe_int (fun _ _ => rfl)) (pv 6) (fun _ _ => rfl)) (pe_lst (pa_cons (pe_op op_addA pe_int (pv 6)) pa_nil))))) (nomark _)) (pss_one (ps_ret pe_bl)) pss_nil) (pss_cons (ps_set (i := 5) sc__law_right.nd rfl (by first | exact Or.inl rfl | exact Or.inr rfl) (pe_goN (ok_look T) hg (hr.mono (by decide)) rfl T.d_look.at_ T.d_look.F.kp (kb_look_0 T) pass0 (pk_cons (pv 2) (pk_cons (pv 1) (pk_cons (pv 0) pk_nil))))) (pss_one (ps_ret (pe_and (pe_cmpR (k_eq (K := K) rfl hu) (pe_callB (c_repr hg hu) rfl T.n_repr (by decide +kernel) (pa_cons (pv 5) pa_nil)) (pe_callB (c_repr hg hu) rfl T.n_repr (by decide +kernel) (pa_cons (pe_ix (k_ix (K := K) rfl) (pv 4) pe_int (fun _ _ => rfl)) pa_nil)) (nomark _)) (pe_one (pe_cmpR (k_eq (K := K) rfl hu) (pe_callB (c_repr hg hu) rfl T.n_repr (by decide +kernel) (pa_cons (pe_lst (pa_cons (pv 0) (pa_cons (pv 1) (pa_cons (pv 2) pa_nil)))) pa_nil)) (pv 3) (nomark _))))))))))))))))))))), ?_⟩
  have hok8 : okP a b 8 ss := okP_up (by decide : 4 ≤ 8) hokL.ok
  have hpic : PicOk a b ss p q := ⟨hok8, hsz, hset⟩
  obtain ⟨hX, hY⟩ := drawn_near hokL hset hp hq
  obtain ⟨lG, lr, lC, lR, fitP, fitG⟩ := pic_small hpic (by decide) (by decide) hX hY
  obtain ⟨dA, hdA⟩ : ∃ dA : Dt, dA = .lst [eFr a b, .tup (ePg ss), eSet p q] := ⟨_, rfl⟩
  have fitA : Fit dA := by rw [hdA]; exact fit_all hset hok8 (by omega) (fun x hx => by have := hp x hx; omega) (fun x hx => by have := hq x hx; omega)
  have seqA : isSeq dA = true := by rw [hdA]; rfl
  obtain ⟨C, hC⟩ : ∃ C : List Int, C = colT ss p q := ⟨_, rfl⟩
  obtain ⟨R, hR⟩ : ∃ R : List Int, R = rowT ss p q := ⟨_, rfl⟩
  obtain ⟨G, hG⟩ : ∃ G : List (List Int), G = lookL ss p q := ⟨_, rfl⟩
  have hcp := cells_pic hX hY
  rw [← hC, ← hR, ← hG] at hcp
  rw [← hC] at lC
  rw [← hR] at lR
  rw [← hG] at lG lr fitG
  rw [← hC, ← hR, ← hG] at fitP
  have hlG : (G.map eI).length = G.length := List.length_map ..
  have rowAt : ∀ j, j < G.length → (G.getD j []).length ≤ 24 := fun j hj => lr _ (by rw [List.getD_eq_getElem?_getD, List.getElem?_eq_getElem hj]; exact List.getElem_mem _)
  -- kept
  refine s_seq (s_asg (d := .str dA.py.shown) e (ev_cb (ea_cons ((ev_lst (ea_cons (ev_v rfl r0) (ea_cons (ev_v rfl r1) (ea_cons (ev_v rfl r2) ea_nil))) (by simp)).is hdA.symm) ea_nil) (rl_reprD seqA fitA)) fun v3 B1 H1 n1 q1 => ?_)
  cases q1
  walk_at "u_m"
  have r0 := r0.mono n1.ext
  have r1 := r1.mono n1.ext
  have r2 := r2.mono n1.ext
  -- due
  refine s_seq (s_asg (d := dPic C R G) n1.sub (ev_call (ea_cons (ev_call (ea_cons (ev_v rfl r1) (ea_cons (ev_v rfl r2) ea_nil)) ⟨a, b, ss, p, q, rfl, hok8, hset.1, hset.2.1, by omega, rfl⟩) (ea_cons (ev_un ev_i ru_neg) (ea_cons ev_i ea_nil))) ⟨laid ss p q, -14, 20, rfl, by decide, by decide, by decide, ?_⟩) fun v4 B2 H2 n2 r4 => ?_)
  · rw [tcol_hit, hcp.1, hcp.2.1, hcp.2.2]
  walk_at "u_m"
  have r0 := r0.mono n2.ext
  have r1 := r1.mono n2.ext
  have r2 := r2.mono n2.ext
  -- told
  refine s_seq ((epo_call (ea_cons (ev_v rfl r0) (ea_cons (ev_v rfl r1) (ea_cons (ev_v rfl r2) ea_nil))) ⟨a, b, ss, p, q, rfl, hpic, hC, hR, hG⟩) H2 n2.sub _ fun t l m g rs B3 H3 n3 o => ?_)
  walk_at "u_m"
  show tSeq _ _ _ _ _
  have r0 := r0.mono n3.ext
  have r1 := r1.mono n3.ext
  have r2 := r2.mono n3.ext
  have r4 := r4.mono n3.ext
  have N3 : New B H B3 H3 := (n1.trans n2).trans n3
  have o3 := o.grow.base (n1.heap.trans n2.heap)
  obtain ⟨g1, g2⟩ := o3.gx N3.sub
  have rt := o3.data
  rw [dPicA_nil] at rt
  refine s_seq (s_if (b := false) g2 ((ec_t (ev_op (ev_cb (ea_cons (ev_v rfl rt) ea_nil) (rl_reprD rfl fitP)) (ev_cb (ea_cons (ev_v rfl (r4.mono g1)) ea_nil) (rl_reprD rfl fitP)) (rv_inl rv_neS))).is (by simp)) (fun z => nomatch z) (fun _ H4 u4 => ?_))
  walk_at "u_m"
  clear rt g1 g2
  have N4 := N3.more u4.heap
  have o4 := o3.ex u4.heap
  -- each list is added to
  refine s_seq (s_forR (B := B3) (n := 3) N4.sub (ea_cons ev_i ea_nil) ⟨by decide, by decide⟩ (fun i σ' H' => ∃ w6, σ' = [some v0, some v1, some v2, some (.str dA.py.shown), some v4, some (.ref t), w6, none] ∧ New B H B3 H' ∧ PicA H B3 H' t l m g rs (if 0 < i then C ++ [90] else C) (if 1 < i then R ++ [91] else R) (if 2 < i then [92] else []) G) ?_ ?_ ?_)
  · intro H5 u5
    exact ⟨none, rfl, N4.more u5.heap, o4.ex u5.heap⟩
  · rintro i σ' H5 hi ⟨w6, rfl, N5, o5⟩
    walk_at "u_m"
    have hi3 : i = 0 ∨ i = 1 ∨ i = 2 := by omega
    rcases hi3 with rfl | rfl | rfl
    · have o5 : PicA H B3 H5 t l m g rs C R [] G := o5
      refine s_appG (B := B3) (x := 90) (xs := C.map V.int) (gv_ixT (gv_v rfl) N5.sub (ev_v rfl (.int _)) o5.ht rfl) N5.sub o5.hl (ev_op ev_i (ev_v rfl (.int _)) (rv_inl rv_add)) (by rw [List.length_map]; omega) fun H6 e6 => ?_
      have o6 := (o5.ex e6).putL (u := C ++ [90])
      rw [map_snoc] at o6
      have ow := o5.own l (by simp)
      exact ⟨_, rfl, (N5.more e6).mut ow.1 ow.2, o6⟩
    · have o5 : PicA H B3 H5 t l m g rs (C ++ [90]) R [] G := o5
      refine s_appG (B := B3) (x := 91) (xs := R.map V.int) (gv_ixT (gv_v rfl) N5.sub (ev_v rfl (.int _)) o5.ht rfl) N5.sub o5.hm (ev_op ev_i (ev_v rfl (.int _)) (rv_inl rv_add)) (by rw [List.length_map]; omega) fun H6 e6 => ?_
      have o6 := (o5.ex e6).putM (u := R ++ [91])
      rw [map_snoc] at o6
      have ow := o5.own m (by simp)
      exact ⟨_, rfl, (N5.more e6).mut ow.1 ow.2, o6⟩
    · have o5 : PicA H B3 H5 t l m g rs (C ++ [90]) (R ++ [91]) [] G := o5
      have hl5 := o5.rows.len
      refine s_appG (B := B3) (x := 92) (xs := rs.map V.ref ++ ([] : List Int).map V.int) (gv_ixT (gv_v rfl) N5.sub (ev_v rfl (.int _)) o5.ht rfl) N5.sub o5.hg (ev_op ev_i (ev_v rfl (.int _)) (rv_inl rv_add)) (by simp; omega) fun H6 e6 => ?_
      have o6 := (o5.ex e6).putG (u := [92])
      have ow := o5.own g (by simp)
      refine ⟨_, rfl, (N5.more e6).mut ow.1 ow.2, ?_⟩
      rw [List.map_nil, List.append_nil]
      exact o6
  rintro σ' H5 ⟨w6, rfl, N5, o5⟩
  have o5 : PicA H B3 H5 t l m g rs (C ++ [90]) (R ++ [91]) [92] G := o5
  walk_at "u_m"
  -- each row is added to
  refine s_seq (s_forR (B := B3) (n := ((G.map eI).length : Nat)) N5.sub (ea_cons (ev_cb (ea_cons (ev_op (ev_v rfl r4) ev_i (rv_ixT rfl)) ea_nil) rl_lenL) ea_nil) ⟨by omega, by omega⟩ (fun i σ' H' => ∃ w6, σ' = [some v0, some v1, some v2, some (.str dA.py.shown), some v4, some (.ref t), w6, none] ∧ New B H B3 H' ∧ PicA H B3 H' t l m g rs (C ++ [90]) (R ++ [91]) [92] (addN 70 i G)) ?_ ?_ ?_)
  · intro H6 u6
    rw [addN_zero]
    exact ⟨_, rfl, N5.more u6.heap, o5.ex u6.heap⟩
  · rintro i σ' H6 hi ⟨w6', rfl, N6, o6⟩
    have hi : i < G.length := by omega
    walk_at "u_m"
    have hl6 := o6.rows.len
    rw [addN_len] at hl6
    obtain ⟨r, hr6⟩ : ∃ r, rs[i]? = some r := ⟨_, List.getElem?_eq_getElem (by omega)⟩
    have hrow := o6.rows.get hr6
    rw [addN_get hi] at hrow
    have ra6 := rowAt i hi
    refine s_appG (B := B3) (x := 70 + (i : Int)) (xs := (G.getD i []).map V.int) (gv_ixL (gv_ixT (gv_v rfl) N6.sub ev_i o6.ht rfl) N6.sub (ev_v rfl (.int _)) o6.hg (atI_nat' (ref_at hr6))) N6.sub hrow (ev_op ev_i (ev_v rfl (.int _)) (rv_inl rv_add)) (by rw [List.length_map]; omega) fun H7 e7 => ?_
    have o7 := (o6.ex e7).putR (u := G.getD i [] ++ [70 + (i : Int)]) hr6
    rw [map_snoc, addN_step hi] at o7
    have ow := o6.own r (by simp [List.mem_of_getElem? hr6])
    exact ⟨_, rfl, (N6.more e7).mut ow.1 ow.2, o7⟩
  rintro σ' H6 ⟨w6', rfl, N6, o6⟩
  rw [addN_G (by omega)] at o6
  obtain ⟨G2, hG2⟩ : ∃ G2 : List (List Int), G2 = (List.range G.length).map fun j => G.getD j [] ++ [70 + (j : Int)] := ⟨_, rfl⟩
  rw [← hG2] at o6
  walk_at "u_m"
  -- rows
  refine s_seq (s_asg (d := .lst (G2.map eI)) N6.sub ((EvL.toR (el_lcN1 (l := List.range G.length) (enc := fun i : Nat => .int (0 + (i : Int))) (f := fun i => eI (G.getD i [] ++ [70 + (i : Int)])) ((goesN_rng1 (n := ((G.map eI).length : Nat)) (ea_cons (ev_cb (ea_cons (ev_op (ev_v rfl r4) ev_i (rv_ixT rfl)) ea_nil) rl_lenL) ea_nil) (by omega) (by omega)).is (by rw [hlG, Int.toNat_natCast])) (by rw [List.length_range]; omega) fun i v B7 H7 k' hm e1 e2 rv go => ?_)).is (by rw [hG2, List.map_map]; rfl)) fun v7 B7 H7 n7 r7 => ?_)
  · have hi : i < G.length := List.mem_range.mp hm
    have rv : U.R B7 v (.int (i : Int)) := by have := rv; rw [Int.zero_add] at this; exact this
    cases rv
    have ra6 := rowAt i hi
    exact go _ rfl ((ev_op (ev_op (ev_op (ev_v rfl (r4.mono e1)) ev_i (rv_ixT rfl)) (ev_v rfl (.int _)) (rv_ixL (at_rows2 (M := G) hi))) (ev_lst (ea_cons (ev_op ev_i (ev_v rfl (.int _)) (rv_inl rv_add)) ea_nil) (by simp)) (rv_inr (rv_cat (by rw [List.length_map]; simp only [List.length_cons, List.length_nil]; omega)))).is (by rw [eI, List.map_append]; rfl))
  walk_at "u_m"
  have r0 := r0.mono n7.ext
  have r1 := r1.mono n7.ext
  have r2 := r2.mono n7.ext
  have r4 := r4.mono n7.ext
  have N7 := N6.trans n7
  have o7 := o6.step n7
  have hl2 : (G2.map eI).length = G.length := by rw [List.length_map, hG2, List.length_map, List.length_range]
  obtain ⟨g1, g2⟩ := o7.gx N7.sub
  have rt := o7.data
  refine s_seq (s_if (b := false) g2 (ec_t (ev_op (ev_op (ev_v rfl rt) ev_i (rv_ixT rfl)) (ev_op (ev_v rfl (r7.mono g1)) (ev_lst (ea_cons ev_i ea_nil) (by simp)) (rv_inr (rv_cat (by first | (simp only [List.length_cons, List.length_nil]; omega) | (rw [List.length_map]; simp only [List.length_cons, List.length_nil]; omega))))) (rv_inr (rv_neSame shaped_rowsN rfl)))) (fun z => nomatch z) (fun _ H8 u8 => ?_))
  walk_at "u_m"
  have N8 := N7.more u8.heap
  have o8 := o7.ex u8.heap
  obtain ⟨h1, h2⟩ := o8.gx N8.sub
  have rt8 := o8.data
  refine s_seq (s_if (b := false) h2 (ec_t (ev_op (ev_lst (ea_cons (ev_op (ev_v rfl rt8) ev_i (rv_ixT rfl)) (ea_cons (ev_op (ev_v rfl rt8) ev_i (rv_ixT rfl)) ea_nil)) (by simp))
    (ev_lst (ea_cons (x := eI (C ++ [90])) ((ev_op (ev_op (ev_v rfl (r4.mono h1)) ev_i (rv_ixT rfl)) (ev_lst (ea_cons ev_i ea_nil) (by simp)) (rv_inr (rv_cat (by first | (simp only [List.length_cons, List.length_nil]; omega) | (rw [List.length_map]; simp only [List.length_cons, List.length_nil]; omega))))).is (by rw [eI, List.map_append]; rfl)) (ea_cons (x := eI (R ++ [91])) ((ev_op (ev_op (ev_v rfl (r4.mono h1)) ev_i (rv_ixT rfl)) (ev_lst (ea_cons ev_i ea_nil) (by simp)) (rv_inr (rv_cat (by first | (simp only [List.length_cons, List.length_nil]; omega) | (rw [List.length_map]; simp only [List.length_cons, List.length_nil]; omega))))).is (by rw [eI, List.map_append]; rfl)) ea_nil)) (by simp))
    (rv_inr (rv_neSame (shaped_eG (g := [C ++ [90], R ++ [91]])) rfl)))) (fun z => nomatch z) (fun _ H9 u9 => ?_))
  walk_at "u_m"
  have N9 := N8.more u9.heap
  refine s_seq (s_if (b := false) N9.sub ((ec_t (ev_op (ev_cb (ea_cons (EvPO.toR (epo_callK (gD := kb_picture_0_d) ea_nil (ea_cons (ev_v rfl r2) (ea_cons (ev_v rfl r1) (ea_cons (ev_v rfl r0) ea_nil))) (fun _ _ _ _ _ r1 r2 _ _ => kb_picture_0_reld r1 r2) ⟨a, b, ss, p, q, rfl, hpic, hC, hR, hG⟩)) ea_nil) (rl_reprD rfl fitP)) (ev_cb (ea_cons (ev_v rfl r4) ea_nil) (rl_reprD rfl fitP)) (rv_inl rv_neS))).is (by simp)) (fun z => nomatch z) (fun _ H10 u10 => ?_))
  walk_at "u_m"
  have N10 := N9.more u10.heap
  -- look
  refine s_seq ((ego_call (ea_cons (ev_v rfl r0) (ea_cons (ev_v rfl r1) (ea_cons (ev_v rfl r2) ea_nil))) ⟨a, b, ss, p, q, rfl, hpic, hG⟩) H10 N10.sub _ fun g' rs' B11 H11 n11 o' => ?_)
  walk_at "u_m"
  show tSeq _ _ _ _ _
  have r0 := r0.mono n11.ext
  have r1 := r1.mono n11.ext
  have r2 := r2.mono n11.ext
  have r4 := r4.mono n11.ext
  have N11 := N10.trans n11
  have o11 := o'.grow.base N10.heap
  obtain ⟨i1, i2⟩ := o11.gx N11.sub
  have rt11 := o11.data
  rw [List.map_nil, List.append_nil] at rt11
  refine s_seq (s_if (b := false) i2 ((ec_t (ev_op (ev_cb (ea_cons (ev_v rfl rt11) ea_nil) (rl_reprD rfl fitG)) (ev_cb (ea_cons (ev_op (ev_v rfl (r4.mono i1)) ev_i (rv_ixT rfl)) ea_nil) (rl_reprD rfl fitG)) (rv_inl rv_neS))).is (by simp)) (fun z => nomatch z) (fun _ H12 u12 => ?_))
  walk_at "u_m"
  have N12 := N11.more u12.heap
  have o12 := o11.ex u12.heap
  refine s_seq (s_forR (B := B11) (n := ((G.map eI).length : Nat)) N12.sub (ea_cons (ev_cb (ea_cons (ev_op (ev_v rfl r4) ev_i (rv_ixT rfl)) ea_nil) rl_lenL) ea_nil) ⟨by omega, by omega⟩ (fun i σ' H' => ∃ w6, σ' = [some v0, some v1, some v2, some (.str dA.py.shown), some v4, some (.ref g'), w6, some v7] ∧ New B H B11 H' ∧ GrA H B11 H' g' rs' [] (addN 50 i G)) ?_ ?_ ?_)
  · intro H13 u13
    rw [addN_zero]
    exact ⟨_, rfl, N12.more u13.heap, o12.ex u13.heap⟩
  · rintro i σ' H13 hi ⟨w13, rfl, N13, o13⟩
    have hi : i < G.length := by omega
    walk_at "u_m"
    have hl6 := o13.rows.len
    rw [addN_len] at hl6
    obtain ⟨r, hr6⟩ : ∃ r, rs'[i]? = some r := ⟨_, List.getElem?_eq_getElem (by omega)⟩
    have hrow := o13.rows.get hr6
    rw [addN_get hi] at hrow
    have ra6 := rowAt i hi
    refine s_appG (B := B11) (x := 50 + (i : Int)) (xs := (G.getD i []).map V.int) (gv_ixL (gv_v rfl) N13.sub (ev_v rfl (.int _)) o13.hg (atI_nat' (ref_at hr6))) N13.sub hrow (ev_op ev_i (ev_v rfl (.int _)) (rv_inl rv_add)) (by rw [List.length_map]; omega) fun H14 e14 => ?_
    have o14 := (o13.ex e14).putR (u := G.getD i [] ++ [50 + (i : Int)]) hr6
    rw [map_snoc, addN_step hi] at o14
    have ow := o13.own r (by simp [List.mem_of_getElem? hr6])
    exact ⟨_, rfl, (N13.more e14).mut ow.1 ow.2, o14⟩
  rintro σ' H13 ⟨w13, rfl, N13, o13⟩
  rw [addN_G (by omega)] at o13
  obtain ⟨G3, hG3⟩ : ∃ G3 : List (List Int), G3 = (List.range G.length).map fun j => G.getD j [] ++ [50 + (j : Int)] := ⟨_, rfl⟩
  rw [← hG3] at o13
  walk_at "u_m"
  obtain ⟨j1, j2⟩ := o13.gx N13.sub
  have rt13 := o13.data
  rw [List.map_nil, List.append_nil] at rt13
  have r4' := r4.mono j1
  refine s_seq (s_if (b := false) j2 (ec_t (ev_op (ev_v rfl rt13) ((EvL.toR (el_lcN1 (l := List.range G.length) (enc := fun i : Nat => .int (0 + (i : Int))) (f := fun i => eI (G.getD i [] ++ [50 + (i : Int)])) ((goesN_rng1 (n := ((G.map eI).length : Nat)) (ea_cons (ev_cb (ea_cons (ev_op (ev_v rfl r4') ev_i (rv_ixT rfl)) ea_nil) rl_lenL) ea_nil) (by omega) (by omega)).is (by rw [hlG, Int.toNat_natCast])) (by rw [List.length_range]; omega) fun i v B14 H14 k' hm e1 e2 rv go => ?_)).is (d := _) (e := .lst (G3.map eI)) (by rw [hG3, List.map_map]; rfl)) (rv_inr (rv_neSame shaped_eG rfl)))) (fun z => nomatch z) (fun _ H14 u14 => ?_))
  · have hi : i < G.length := List.mem_range.mp hm
    have rv : U.R B14 v (.int (i : Int)) := by have := rv; rw [Int.zero_add] at this; exact this
    cases rv
    have ra6 := rowAt i hi
    exact go _ rfl ((ev_op (ev_op (ev_op (ev_v rfl (r4'.mono e1)) ev_i (rv_ixT rfl)) (ev_v rfl (.int _)) (rv_ixL (at_rows2 (M := G) hi))) (ev_lst (ea_cons (ev_op ev_i (ev_v rfl (.int _)) (rv_inl rv_add)) ea_nil) (by simp)) (rv_inr (rv_cat (by rw [List.length_map]; simp only [List.length_cons, List.length_nil]; omega)))).is (by rw [eI, List.map_append]; rfl))
  walk_at "u_m"
  have N14 := N13.more u14.heap
  refine s_seq (s_asg (d := .lst (G.map eI)) N14.sub (EvLL.toR (ego_callK (gD := kb_look_0_d) ea_nil (ea_cons (ev_v rfl r2) (ea_cons (ev_v rfl r1) (ea_cons (ev_v rfl r0) ea_nil))) (fun _ _ _ _ _ r1 r2 _ _ => kb_look_0_reld r1 r2) ⟨a, b, ss, p, q, rfl, hpic, hG⟩)) fun v15 B15 H15 n15 r15 => ?_)
  walk_at "u_m"
  have r0 := r0.mono n15.ext
  have r1 := r1.mono n15.ext
  have r2 := r2.mono n15.ext
  have r4 := r4.mono n15.ext
  have N15 := N14.trans n15
  refine s_retE N15.sub (ev_and (a := true) (b := true) ((ev_op (ev_cb (ea_cons (ev_v rfl r15) ea_nil) (rl_reprD rfl fitG)) (ev_cb (ea_cons (ev_op (ev_v rfl r4) ev_i (rv_ixT rfl)) ea_nil) (rl_reprD rfl fitG)) (rv_inl rv_eqS)).is (by simp)) fun _ => (ev_op (ev_cb (ea_cons ((ev_lst (ea_cons (ev_v rfl r0) (ea_cons (ev_v rfl r1) (ea_cons (ev_v rfl r2) ea_nil))) (by simp)).is hdA.symm) ea_nil) (rl_reprD seqA fitA)) (ev_v rfl (.str _)) (rv_inl rv_eqS)).is (by simp)) rfl fun v B16 H16 n16 rv => ret v B16 H16 (N15.trans n16) rv

def spLaw (K : PySem.W.Frag) : Sp := fun vs H Q _ => ∃ (a : Addr) (ns : List Int), vs = [.ref a] ∧ Scr K a ns H ∧ ns.length ≤ 63 ∧ ∀ H', Q (.bl true) H'
theorem skU : skP [] (0, 0) (unb, unb) = [] := by rw [skP]
theorem edge_nil : edgeL [] = [] := (edgeL_eq (o := []) ⟨fun x => by unfold edgesOf; simp, .nil⟩).symm
theorem exX_nil (p : List Int) : exX [] p = [] := by unfold exX spansA; rw [skU]; exact edge_nil
theorem eyX_nil (p : List Int) : eyX [] p = [] := by unfold eyX spansA; rw [skU]; exact edge_nil
theorem pic_nil (p q : List Int) : colT [] p q = [] ∧ rowT [] p q = [] ∧ lookL [] p q = [] := by
  have h1 : colT [] p q = [] := by rw [colT_E, exX_nil]; rfl
  have h2 : rowT [] p q = [] := by rw [rowT_E, eyX_nil]; rfl
  exact ⟨h1, h2, by rw [lookL_E, h2]; rfl⟩
theorem ok_law (T : Txt K mg fa fd) : FnG P w K mg base CX0 27 (fa 68) (fd 68) ["script"] (spLaw K) := by
  refine fn_S T.d_law.F sc_law (fun vs H Q E h => by obtain ⟨_, _, rfl, _⟩ := h; rfl) (fun cdv Γ below s H vs Q E hg hr h => ?_)
  obtain ⟨a, ns, rfl, ⟨hs, _⟩, hl, ret⟩ := h
  have hu := hr.units
  refine ⟨_, (pss_cons (ps_set (i := 1) sc_law.nd rfl (by first | exact Or.inl rfl | exact Or.inr rfl) (pe_go (ok__law_deck T) hg (hr.mono (by decide)) rfl T.d__law_deck.at_ T.d__law_deck.F.kp (bn__law_deck T) pass0 (pa_cons (pv 0) pa_nil))) (pss_cons (ps_for PassesOwn.never rfl (pi_range1 rfl T.n_range (pa_cons pe_int pa_nil)) (pg_name (i := 2) sc_law.nd rfl (by first | exact Or.inl rfl | exact Or.inr rfl)) (pss_cons (ps_par (i := 3) (j := 4) rfl sc_law.nd rfl rfl (by decide) rfl rfl (pa_cons (pe_go (ok__law_home T) hg (hr.mono (by decide)) rfl T.d__law_home.at_ T.d__law_home.F.kp (bn__law_home T) pass0 (pa_cons (pv 1) (pa_cons pe_int pa_nil))) (pa_cons (pe_lst (pa_cons pe_int pa_nil)) pa_nil)) rfl) (pss_cons (ps_set (i := 5) sc_law.nd rfl (by first | exact Or.inl rfl | exact Or.inr rfl) (pe_go (ok__law_program T) hg (hr.mono (by decide)) rfl T.d__law_program.at_ T.d__law_program.F.kp (bn__law_program T) pass0 (pa_cons (pv 1) (pa_cons (pv 3) (pa_cons (pv 4) (pa_cons pe_int pa_nil)))))) (pss_cons (ps_set (i := 6) sc_law.nd rfl (by first | exact Or.inl rfl | exact Or.inr rfl) (pe_go (ok__law_setting T) hg (hr.mono (by decide)) rfl T.d__law_setting.at_ T.d__law_setting.F.kp (bn__law_setting T) pass0 (pa_cons (pv 1) (pa_cons (pv 3) (pa_cons (pe_go (ok__law_take T) hg (hr.mono (by decide)) rfl T.d__law_take.at_ T.d__law_take.F.kp (bn__law_take T) pass0 (pa_cons (pv 1) (pa_cons pe_int pa_nil))) pa_nil))))) (pss_cons (ps_if (pt_not (pt_val (pe_go (ok__law_right T) hg (hr.mono (by decide)) rfl T.d__law_right.at_ T.d__law_right.F.kp (bn__law_right T) pass0 (pa_cons (pv 3) (pa_cons (pv 5) (pa_cons (pv 6) pa_nil)))))) (pss_one (ps_ret pe_bl)) pss_nil) (pss_cons (ps_set (i := 7) sc_law.nd rfl (by first | exact Or.inl rfl | exact Or.inr rfl) (pe_op (k_catA (K := K) rfl) (pv 5) (pe_tup (pa_cons (pe_tup (pa_cons pe_str (pa_cons (pe_go (ok__law_box T) hg (hr.mono (by decide)) rfl T.d__law_box.at_ T.d__law_box.F.kp (bn__law_box T) pass0 (pa_cons (pv 1) (pa_cons (pv 3) pa_nil))) (pa_cons pe_int pa_nil)))) pa_nil)))) (pss_one (ps_if (PW.pt (pw_and (pt_cmpR (k_eq (K := K) rfl hu) (pv 2) pe_int (nomark _)) (pw_and1 (pt_not (pt_val (pe_go (ok__law_right T) hg (hr.mono (by decide)) rfl T.d__law_right.at_ T.d__law_right.F.kp (bn__law_right T) pass0 (pa_cons (pv 3) (pa_cons (pv 7) (pa_cons (pv 6) pa_nil))))))))) (pss_one (ps_ret pe_bl)) pss_nil)))))))) (pss_one (ps_ret (pe_and (pe_cmpR (k_eq (K := K) rfl hu) (pe_go (ok_picture T) hg (hr.mono (by decide)) rfl T.d_picture.at_ T.d_picture.F.kp (bn_picture T) pass0 (pa_cons (pe_tup (pa_cons pe_int (pa_cons pe_int pa_nil))) (pa_cons (pe_tup pa_nil) (pa_cons (pe_tup (pa_cons (pe_lst (pa_cons pe_int pa_nil)) (pa_cons (pe_lst (pa_cons pe_int pa_nil)) pa_nil))) pa_nil)))) (pe_tup (pa_cons (pe_lst pa_nil) (pa_cons (pe_lst pa_nil) (pa_cons (pe_lst pa_nil) pa_nil)))) (nomark _)) (pe_one (pe_cmpR (k_eq (K := K) rfl hu) (pe_go (ok_look T) hg (hr.mono (by decide)) rfl T.d_look.at_ T.d_look.F.kp (bn_look T) pass0 (pa_cons (pe_tup (pa_cons pe_int (pa_cons pe_int pa_nil))) (pa_cons (pe_tup pa_nil) (pa_cons (pe_tup (pa_cons (pe_lst (pa_cons pe_int pa_nil)) (pa_cons (pe_lst (pa_cons pe_int pa_nil)) pa_nil))) pa_nil)))) (pe_lst pa_nil) (nomark _)))))))), ?_⟩
  let B0 : Hp := fun _ => none
  have e0 : ∀ H', Ex B0 H' := fun H' a u h => nomatch h
  refine s_seq (show tAsg (tCall (spDeck K) _ _ (tCons (tVar 0) tNil)) _ _ _ _ from ⟨_, rfl, a, ns, rfl, hs, hl, fun p q H1 e1 dk => ?_⟩)
  refine s_seq (s_forR (B := B0) (n := 4) (e0 _) (ea_cons ev_i ea_nil) ⟨by decide, by decide⟩ (fun i σ' H' => ∃ w2 w3 w4 w5 w6 w7 : Option V, σ' = [some (.ref a), some (.ref p), w2, w3, w4, w5, w6, w7] ∧ Dk p q H') ?_ ?_ ?_)
  · intro H2 u2
    exact ⟨_, _, _, _, _, _, rfl, dk.ex u2.heap⟩
  · rintro i σ' H' hi ⟨w2, w3, w4, w5, w6, w7, rfl, dk⟩
    walk_at "u_m"
    refine s_seq (s_parP (k := 9) (B := B0) (P := fun d _ => ∃ a b : Int, FrOk a b ∧ d = eFr a b) (e0 _) (fun _ _ => rfl) dk ((eg_callK (pre := pre__law_home) (g := g__law_home) (as := [.int 6]) dkIn_d rfl (ea_cons ev_i ea_nil) rfl).imp fun d j hd => hd.1) fun v3 r B1 H1 d hd x1 e1 o1 s1 r3 => ?_)
    walk_at "u_m"
    obtain ⟨f1, f2, hf, rfl⟩ := hd
    refine s_seq (s_asgG e1 o1 s1 (eg_prog (k := 9) (lv := 4) rfl rfl (ev_v rfl r3) ev_i hf (by decide) (by decide) (by decide)) fun v5 B2 H2 d k2 hd n2 o2 s2 r5 => ?_)
    walk_at "u_m"
    obtain ⟨one, hone, hsz1, hk1, rfl⟩ := hd
    have r3 := r3.mono n2.ext
    have l2 : Lv p q B2 H2 B2 H2 := lv_start n2.sub (outU o2) (staU s2)
    -- values
    refine s_seq (show tAsg (tCall (spK pre__law_setting g__law_setting) _ _ (tCons (tVar 1) _)) _ _ _ _ from ⟨_, rfl, ⟨v3, rfl, lv_take l2 rfl ev_i (by decide) (by decide) fun st H5 st0 st1 l5 => lv_spK (E := E0) l5 (.cons r3 (.cons (.int st) .nil)) ⟨f1, f2, st, rfl, hf, st0, by omega⟩ fun v6 B6 H6 d hd x6 l6 r6 => ?_⟩⟩)
    walk_at "u_m"
    obtain ⟨_, _, _, u, w, he, hset, nu, nw, rfl⟩ := hd
    cases he
    have r3 := r3.mono x6
    have r5 := r5.mono x6
    have hu5 := nu.2 (by omega)
    have hw5 := nw.2 (by omega)
    refine s_seq (lv_no l6 (ec_not (ec_v (ev_call (d := .bl true) (ea_cons (ev_v rfl r3) (ea_cons (ev_v rfl r5) (ea_cons (ev_v rfl r6) ea_nil))) ⟨f1, f2, one, u, w, rfl, hone, by omega, hset, hu5, hw5, rfl⟩))) rfl fun H7 l7 => ?_)
    walk_at "u_m"
    -- erased
    refine s_seq (show tAsg (tOp _ (tVar 5) (tTup (tCons (tTup (tCons _ (tCons (tCall (spK pre__law_box g__law_box) _ _ _) (tCons _ tNil)))) tNil))) _ _ _ _ from ⟨_, rfl, lv_callK l7 rfl (ea_cons (ev_v rfl r3) ea_nil) ⟨f1, f2, rfl, hf⟩ fun v8 B8 H8 d hd x8 l8 r8 => ?_⟩)
    obtain ⟨_, _, bx, he, hbx, rfl⟩ := hd
    cases he
    refine ⟨sz_of (by simp), fun aT haT => ?_⟩
    obtain ⟨B9, x9, l9, r9⟩ := l8.tup (.cons (.str "fill") (.cons r8 (.cons (.int 0) .nil))) haT
    refine ⟨sz_of (by simp), fun aU haU => ?_⟩
    obtain ⟨B10, x10, l10, r10⟩ := l9.tup (.cons r9 .nil) haU
    have r3 := ((r3.mono x8).mono x9).mono x10
    have r5 := ((r5.mono x8).mono x9).mono x10
    have r6 := ((r6.mono x8).mono x9).mono x10
    have ln1 := len_szP one
    have cat : Dt.tup (ePg one ++ [.tup [.str "fill", eBx bx, .int 0]]) = .tup (ePg (one ++ [.fill bx 0])) := by rw [ePg_map, ePg_map, List.map_append, List.map_cons, List.map_nil, eSt]
    refine lv_rv l10 (rv_catA (ds := ePg one) (es := [.tup [.str "fill", eBx bx, .int 0]]) (by rw [ePg_map, List.length_map]; simp only [List.length_cons, List.length_nil]; omega)) r5 r10 fun v11 B11 H11 x11 l11 r11 => ?_
    rw [cat] at r11
    walk_at "u_m"
    have r3 := r3.mono x11
    have r6 := r6.mono x11
    have htwo : okPL f1 f2 4 (one ++ [.fill bx 0]) := fun s hs => by
      rcases List.mem_append.mp hs with hs | hs
      · exact hone s hs
      · rw [List.mem_singleton.mp hs]; exact ⟨hbx, by decide, by decide⟩
    have hz2 : szP (one ++ [.fill bx 0]) ≤ 12 := by rw [szP_append, szP, szS, szP]; omega
    refine lv_no l11 (b := decide ((i : Int) = 0) && !true) (ec_and (ec_t (ev_op (ev_v rfl (.int _)) ev_i (rv_inl rv_eqI))) fun _ => ec_not (ec_v (ev_call (d := .bl true) (ea_cons (ev_v rfl r3) (ea_cons (ev_v rfl r11) (ea_cons (ev_v rfl r6) ea_nil))) ⟨f1, f2, _, u, w, rfl, htwo, hz2, hset, hu5, hw5, rfl⟩))) (by simp) fun H12 l12 => ?_
    exact ⟨_, _, _, _, _, _, rfl, l12.s⟩
  · rintro σ' H' ⟨w2, w3, w4, w5, w6, w7, rfl, dk⟩
    walk_at "u_m"
    have hset : SetOk 1 1 [5] [6] := ⟨rfl, rfl, by decide, by decide, by decide, by decide⟩
    have hpic : PicOk 1 1 [] [5] [6] := ⟨fun s hs => by simp at hs, by rw [szP]; decide, hset⟩
    obtain ⟨z1, z2, z3⟩ := pic_nil [5] [6]
    have s0 : SeqAt.shaped (dPic [] [] []).py = true := shaped_picT (cs := []) (rs := []) (g := [])
    refine s_retE (e0 _) (ev_and (a := true) (b := true) ((ev_op (EvPO.toR (epo_call (C := []) (R := []) (G := []) (ea_cons (ev_tup (ea_cons ev_i (ea_cons ev_i ea_nil)) (by simp)) (ea_cons ((ev_tup ea_nil (by simp)).is (by rw [ePg])) (ea_cons (ev_tup (ea_cons (ev_lst (ea_cons ev_i ea_nil) (by simp)) (ea_cons (ev_lst (ea_cons ev_i ea_nil) (by simp)) ea_nil)) (by simp)) ea_nil))) ⟨1, 1, [], [5], [6], rfl, hpic, z1.symm, z2.symm, z3.symm⟩)) (ev_tup (ea_cons (ev_lst ea_nil (by simp)) (ea_cons (ev_lst ea_nil (by simp)) (ea_cons (ev_lst ea_nil (by simp)) ea_nil))) (by simp)) (rv_inr (rv_eqSame s0 rfl))))
      fun _ => ev_op (EvLL.toR (ego_call (G := []) (ea_cons (ev_tup (ea_cons ev_i (ea_cons ev_i ea_nil)) (by simp)) (ea_cons ((ev_tup ea_nil (by simp)).is (by rw [ePg])) (ea_cons (ev_tup (ea_cons (ev_lst (ea_cons ev_i ea_nil) (by simp)) (ea_cons (ev_lst (ea_cons ev_i ea_nil) (by simp)) ea_nil)) (by simp)) ea_nil))) ⟨1, 1, [], [5], [6], rfl, hpic, z3.symm⟩)) (ev_lst ea_nil (by simp)) (rv_inr (rv_eqSame (shaped_eG (g := [])) rfl))) rfl (fun v B1 H2 n1 rv => by cases rv; exact ret H2)

end
theorem all_mk {l : PySem.W.OpenLaw} {w : World} {K : PySem.W.Frag} {h : Heap} {mg : Str → Option Value} {fL f9 f10 f11 f12 f13 f14 f15 f16 f17 f18 f19 f20 f21 f22 f23 f25 f26 f27 f30 f31 f32 f33 f34 f35 f36 f37 f38 f39 f40 f41 f42 f43 f44 f46 f47 f48 f49 f50 f51 f53 f54 f55 f56 f57 f58 f59 f60 f61 f62 f63 f64 f65 f66 f67 f68 : Addr} (X : K.In h) (G : h.Ns mainGlobals mg) (hfa : mg "law" = some (.ref fL))
    {od9 an9 od10 an10 od11 an11 od12 an12 od13 an13 od14 an14 od15 an15 od16 an16 od17 an17 od18 an18 od19 an19 od20 an20 od21 an21 od22 an22 od23 an23 od25 an25 od26 an26 od27 an27 od30 an30 od31 an31 od32 an32 od33 an33 od34 an34 od35 an35 od36 an36 od37 an37 od38 an38 od39 an39 od40 an40 od41 an41 od42 an42 od43 an43 od44 an44 od46 an46 od47 an47 od48 an48 od49 an49 od50 an50 od51 an51 od53 an53 od54 an54 od55 an55 od56 an56 od57 an57 od58 an58 od59 an59 od60 an60 od61 an61 od62 an62 od63 an63 od64 an64 od65 an65 od66 an66 od67 an67 od68 an68 : Option Addr} {sl9 sl10 sl11 sl12 sl13 sl14 sl15 sl16 sl17 sl18 sl19 sl20 sl21 sl22 sl23 sl25 sl26 sl27 sl30 sl31 sl32 sl33 sl34 sl35 sl36 sl37 sl38 sl39 sl40 sl41 sl42 sl43 sl44 sl46 sl47 sl48 sl49 sl50 sl51 sl53 sl54 sl55 sl56 sl57 sl58 sl59 sl60 sl61 sl62 sl63 sl64 sl65 sl66 sl67 sl68 : Array (Option Value)} {oc9 kV9 dc9 pm9 cd9 ct9 oc10 kV10 dc10 pm10 cd10 ct10 oc11 kV11 dc11 pm11 cd11 ct11 oc12 kV12 dc12 pm12 cd12 ct12 oc13 kV13 dc13 pm13 cd13 ct13 oc14 kV14 dc14 pm14 cd14 ct14 oc15 kV15 dc15 pm15 cd15 ct15 oc16 kV16 dc16 pm16 cd16 ct16 oc17 kV17 dc17 pm17 cd17 ct17 oc18 kV18 dc18 pm18 cd18 ct18 oc19 kV19 dc19 pm19 cd19 ct19 oc20 kV20 dc20 pm20 cd20 ct20 oc21 kV21 dc21 pm21 cd21 ct21 oc22 kV22 dc22 pm22 cd22 ct22 oc23 kV23 dc23 pm23 cd23 ct23 oc25 kV25 dc25 pm25 cd25 ct25 oc26 kV26 dc26 pm26 cd26 ct26 oc27 kV27 dc27 pm27 cd27 ct27 oc30 kV30 dc30 pm30 cd30 ct30 oc31 kV31 dc31 pm31 cd31 ct31 oc32 kV32 dc32 pm32 cd32 ct32 oc33 kV33 dc33 pm33 cd33 ct33 oc34 kV34 dc34 pm34 cd34 ct34 oc35 kV35 dc35 pm35 cd35 ct35 oc36 kV36 dc36 pm36 cd36 ct36 oc37 kV37 dc37 pm37 cd37 ct37 oc38 kV38 dc38 pm38 cd38 ct38 oc39 kV39 dc39 pm39 cd39 ct39 oc40 kV40 dc40 pm40 cd40 ct40 oc41 kV41 dc41 pm41 cd41 ct41 oc42 kV42 dc42 pm42 cd42 ct42 oc43 kV43 dc43 pm43 cd43 ct43 oc44 kV44 dc44 pm44 cd44 ct44 oc46 kV46 dc46 pm46 cd46 ct46 oc47 kV47 dc47 pm47 cd47 ct47 oc48 kV48 dc48 pm48 cd48 ct48 oc49 kV49 dc49 pm49 cd49 ct49 oc50 kV50 dc50 pm50 cd50 ct50 oc51 kV51 dc51 pm51 cd51 ct51 oc53 kV53 dc53 pm53 cd53 ct53 oc54 kV54 dc54 pm54 cd54 ct54 oc55 kV55 dc55 pm55 cd55 ct55 oc56 kV56 dc56 pm56 cd56 ct56 oc57 kV57 dc57 pm57 cd57 ct57 oc58 kV58 dc58 pm58 cd58 ct58 oc59 kV59 dc59 pm59 cd59 ct59 oc60 kV60 dc60 pm60 cd60 ct60 oc61 kV61 dc61 pm61 cd61 ct61 oc62 kV62 dc62 pm62 cd62 ct62 oc63 kV63 dc63 pm63 cd63 ct63 oc64 kV64 dc64 pm64 cd64 ct64 oc65 kV65 dc65 pm65 cd65 ct65 oc66 kV66 dc66 pm66 cd66 ct66 oc67 kV67 dc67 pm67 cd67 ct67 oc68 kV68 dc68 pm68 cd68 ct68 : Value} {t_MOST_UNKNOWNS t_MOST_AMOUNT t_MOST_COLOUR : Tok}
    (a_9 : PySem.W.nsIn K mainGlobals "is_within" = some (some (.ref f9))) (l_9 : K.lookup f9 = some ⟨oc9, od9, .func (PySem.W.fnOf "is_within" "is_within" (defArgs s_is_within) (defBody s_is_within) (defScope s_is_within) .none kV9 dc9 pm9 an9 cd9 ct9), sl9⟩) (c_9 : PySem.W.codeIn K cd9 "is_within" = true) (k_9 : PySem.W.keepIn K (.ref f9) = true)
    (a_10 : PySem.W.nsIn K mainGlobals "is_tuple_of" = some (some (.ref f10))) (l_10 : K.lookup f10 = some ⟨oc10, od10, .func (PySem.W.fnOf "is_tuple_of" "is_tuple_of" (defArgs s_is_tuple_of) (defBody s_is_tuple_of) (defScope s_is_tuple_of) .none kV10 dc10 pm10 an10 cd10 ct10), sl10⟩) (c_10 : PySem.W.codeIn K cd10 "is_tuple_of" = true) (k_10 : PySem.W.keepIn K (.ref f10) = true)
    (a_11 : PySem.W.nsIn K mainGlobals "is_axis" = some (some (.ref f11))) (l_11 : K.lookup f11 = some ⟨oc11, od11, .func (PySem.W.fnOf "is_axis" "is_axis" (defArgs s_is_axis) (defBody s_is_axis) (defScope s_is_axis) .none kV11 dc11 pm11 an11 cd11 ct11), sl11⟩) (c_11 : PySem.W.codeIn K cd11 "is_axis" = true) (k_11 : PySem.W.keepIn K (.ref f11) = true)
    (a_12 : PySem.W.nsIn K mainGlobals "is_frame" = some (some (.ref f12))) (l_12 : K.lookup f12 = some ⟨oc12, od12, .func (PySem.W.fnOf "is_frame" "is_frame" (defArgs s_is_frame) (defBody s_is_frame) (defScope s_is_frame) .none kV12 dc12 pm12 an12 cd12 ct12), sl12⟩) (c_12 : PySem.W.codeIn K cd12 "is_frame" = true) (k_12 : PySem.W.keepIn K (.ref f12) = true)
    (a_13 : PySem.W.nsIn K mainGlobals "need_frame" = some (some (.ref f13))) (l_13 : K.lookup f13 = some ⟨oc13, od13, .func (PySem.W.fnOf "need_frame" "need_frame" (defArgs s_need_frame) (defBody s_need_frame) (defScope s_need_frame) .none kV13 dc13 pm13 an13 cd13 ct13), sl13⟩) (c_13 : PySem.W.codeIn K cd13 "need_frame" = true) (k_13 : PySem.W.keepIn K (.ref f13) = true)
    (a_14 : PySem.W.nsIn K mainGlobals "on_axis" = some (some (.ref f14))) (l_14 : K.lookup f14 = some ⟨oc14, od14, .func (PySem.W.fnOf "on_axis" "on_axis" (defArgs s_on_axis) (defBody s_on_axis) (defScope s_on_axis) .none kV14 dc14 pm14 an14 cd14 ct14), sl14⟩) (c_14 : PySem.W.codeIn K cd14 "on_axis" = true) (k_14 : PySem.W.keepIn K (.ref f14) = true)
    (a_15 : PySem.W.nsIn K mainGlobals "is_amount" = some (some (.ref f15))) (l_15 : K.lookup f15 = some ⟨oc15, od15, .func (PySem.W.fnOf "is_amount" "is_amount" (defArgs s_is_amount) (defBody s_is_amount) (defScope s_is_amount) .none kV15 dc15 pm15 an15 cd15 ct15), sl15⟩) (c_15 : PySem.W.codeIn K cd15 "is_amount" = true) (k_15 : PySem.W.keepIn K (.ref f15) = true)
    (a_16 : PySem.W.nsIn K mainGlobals "is_colour" = some (some (.ref f16))) (l_16 : K.lookup f16 = some ⟨oc16, od16, .func (PySem.W.fnOf "is_colour" "is_colour" (defArgs s_is_colour) (defBody s_is_colour) (defScope s_is_colour) .none kV16 dc16 pm16 an16 cd16 ct16), sl16⟩) (c_16 : PySem.W.codeIn K cd16 "is_colour" = true) (k_16 : PySem.W.keepIn K (.ref f16) = true)
    (a_17 : PySem.W.nsIn K mainGlobals "is_corner" = some (some (.ref f17))) (l_17 : K.lookup f17 = some ⟨oc17, od17, .func (PySem.W.fnOf "is_corner" "is_corner" (defArgs s_is_corner) (defBody s_is_corner) (defScope s_is_corner) .none kV17 dc17 pm17 an17 cd17 ct17), sl17⟩) (c_17 : PySem.W.codeIn K cd17 "is_corner" = true) (k_17 : PySem.W.keepIn K (.ref f17) = true)
    (a_18 : PySem.W.nsIn K mainGlobals "is_box" = some (some (.ref f18))) (l_18 : K.lookup f18 = some ⟨oc18, od18, .func (PySem.W.fnOf "is_box" "is_box" (defArgs s_is_box) (defBody s_is_box) (defScope s_is_box) .none kV18 dc18 pm18 an18 cd18 ct18), sl18⟩) (c_18 : PySem.W.codeIn K cd18 "is_box" = true) (k_18 : PySem.W.keepIn K (.ref f18) = true)
    (a_19 : PySem.W.nsIn K mainGlobals "is_test" = some (some (.ref f19))) (l_19 : K.lookup f19 = some ⟨oc19, od19, .func (PySem.W.fnOf "is_test" "is_test" (defArgs s_is_test) (defBody s_is_test) (defScope s_is_test) .none kV19 dc19 pm19 an19 cd19 ct19), sl19⟩) (c_19 : PySem.W.codeIn K cd19 "is_test" = true) (k_19 : PySem.W.keepIn K (.ref f19) = true)
    (a_20 : PySem.W.nsIn K mainGlobals "is_statement" = some (some (.ref f20))) (l_20 : K.lookup f20 = some ⟨oc20, od20, .func (PySem.W.fnOf "is_statement" "is_statement" (defArgs s_is_statement) (defBody s_is_statement) (defScope s_is_statement) .none kV20 dc20 pm20 an20 cd20 ct20), sl20⟩) (c_20 : PySem.W.codeIn K cd20 "is_statement" = true) (k_20 : PySem.W.keepIn K (.ref f20) = true)
    (a_21 : PySem.W.nsIn K mainGlobals "is_program" = some (some (.ref f21))) (l_21 : K.lookup f21 = some ⟨oc21, od21, .func (PySem.W.fnOf "is_program" "is_program" (defArgs s_is_program) (defBody s_is_program) (defScope s_is_program) .none kV21 dc21 pm21 an21 cd21 ct21), sl21⟩) (c_21 : PySem.W.codeIn K cd21 "is_program" = true) (k_21 : PySem.W.keepIn K (.ref f21) = true)
    (a_22 : PySem.W.nsIn K mainGlobals "need_program" = some (some (.ref f22))) (l_22 : K.lookup f22 = some ⟨oc22, od22, .func (PySem.W.fnOf "need_program" "need_program" (defArgs s_need_program) (defBody s_need_program) (defScope s_need_program) .none kV22 dc22 pm22 an22 cd22 ct22), sl22⟩) (c_22 : PySem.W.codeIn K cd22 "need_program" = true) (k_22 : PySem.W.keepIn K (.ref f22) = true)
    (a_23 : PySem.W.nsIn K mainGlobals "moved_further" = some (some (.ref f23))) (l_23 : K.lookup f23 = some ⟨oc23, od23, .func (PySem.W.fnOf "moved_further" "moved_further" (defArgs s_moved_further) (defBody s_moved_further) (defScope s_moved_further) .none kV23 dc23 pm23 an23 cd23 ct23), sl23⟩) (c_23 : PySem.W.codeIn K cd23 "moved_further" = true) (k_23 : PySem.W.keepIn K (.ref f23) = true)
    (a_25 : PySem.W.nsIn K mainGlobals "is_row" = some (some (.ref f25))) (l_25 : K.lookup f25 = some ⟨oc25, od25, .func (PySem.W.fnOf "is_row" "is_row" (defArgs s_is_row) (defBody s_is_row) (defScope s_is_row) .none kV25 dc25 pm25 an25 cd25 ct25), sl25⟩) (c_25 : PySem.W.codeIn K cd25 "is_row" = true) (k_25 : PySem.W.keepIn K (.ref f25) = true)
    (a_26 : PySem.W.nsIn K mainGlobals "is_setting" = some (some (.ref f26))) (l_26 : K.lookup f26 = some ⟨oc26, od26, .func (PySem.W.fnOf "is_setting" "is_setting" (defArgs s_is_setting) (defBody s_is_setting) (defScope s_is_setting) .none kV26 dc26 pm26 an26 cd26 ct26), sl26⟩) (c_26 : PySem.W.codeIn K cd26 "is_setting" = true) (k_26 : PySem.W.keepIn K (.ref f26) = true)
    (a_27 : PySem.W.nsIn K mainGlobals "need_setting" = some (some (.ref f27))) (l_27 : K.lookup f27 = some ⟨oc27, od27, .func (PySem.W.fnOf "need_setting" "need_setting" (defArgs s_need_setting) (defBody s_need_setting) (defScope s_need_setting) .none kV27 dc27 pm27 an27 cd27 ct27), sl27⟩) (c_27 : PySem.W.codeIn K cd27 "need_setting" = true) (k_27 : PySem.W.keepIn K (.ref f27) = true)
    (a_30 : PySem.W.nsIn K mainGlobals "moved_corner" = some (some (.ref f30))) (l_30 : K.lookup f30 = some ⟨oc30, od30, .func (PySem.W.fnOf "moved_corner" "moved_corner" (defArgs s_moved_corner) (defBody s_moved_corner) (defScope s_moved_corner) .none kV30 dc30 pm30 an30 cd30 ct30), sl30⟩) (c_30 : PySem.W.codeIn K cd30 "moved_corner" = true) (k_30 : PySem.W.keepIn K (.ref f30) = true)
    (a_31 : PySem.W.nsIn K mainGlobals "narrowed" = some (some (.ref f31))) (l_31 : K.lookup f31 = some ⟨oc31, od31, .func (PySem.W.fnOf "narrowed" "narrowed" (defArgs s_narrowed) (defBody s_narrowed) (defScope s_narrowed) .none kV31 dc31 pm31 an31 cd31 ct31), sl31⟩) (c_31 : PySem.W.codeIn K cd31 "narrowed" = true) (k_31 : PySem.W.keepIn K (.ref f31) = true)
    (a_32 : PySem.W.nsIn K mainGlobals "boxed" = some (some (.ref f32))) (l_32 : K.lookup f32 = some ⟨oc32, od32, .func (PySem.W.fnOf "boxed" "boxed" (defArgs s_boxed) (defBody s_boxed) (defScope s_boxed) .none kV32 dc32 pm32 an32 cd32 ct32), sl32⟩) (c_32 : PySem.W.codeIn K cd32 "boxed" = true) (k_32 : PySem.W.keepIn K (.ref f32) = true)
    (a_33 : PySem.W.nsIn K mainGlobals "tested" = some (some (.ref f33))) (l_33 : K.lookup f33 = some ⟨oc33, od33, .func (PySem.W.fnOf "tested" "tested" (defArgs s_tested) (defBody s_tested) (defScope s_tested) .none kV33 dc33 pm33 an33 cd33 ct33), sl33⟩) (c_33 : PySem.W.codeIn K cd33 "tested" = true) (k_33 : PySem.W.keepIn K (.ref f33) = true)
    (a_34 : PySem.W.nsIn K mainGlobals "parts_inside" = some (some (.ref f34))) (l_34 : K.lookup f34 = some ⟨oc34, od34, .func (PySem.W.fnOf "parts_inside" "parts_inside" (defArgs s_parts_inside) (defBody s_parts_inside) (defScope s_parts_inside) .none kV34 dc34 pm34 an34 cd34 ct34), sl34⟩) (c_34 : PySem.W.codeIn K cd34 "parts_inside" = true) (k_34 : PySem.W.keepIn K (.ref f34) = true)
    (a_35 : PySem.W.nsIn K mainGlobals "strokes_in" = some (some (.ref f35))) (l_35 : K.lookup f35 = some ⟨oc35, od35, .func (PySem.W.fnOf "strokes_in" "strokes_in" (defArgs s_strokes_in) (defBody s_strokes_in) (defScope s_strokes_in) .none kV35 dc35 pm35 an35 cd35 ct35), sl35⟩) (c_35 : PySem.W.codeIn K cd35 "strokes_in" = true) (k_35 : PySem.W.keepIn K (.ref f35) = true)
    (a_36 : PySem.W.nsIn K mainGlobals "strokes_of" = some (some (.ref f36))) (l_36 : K.lookup f36 = some ⟨oc36, od36, .func (PySem.W.fnOf "strokes_of" "strokes_of" (defArgs s_strokes_of) (defBody s_strokes_of) (defScope s_strokes_of) .none kV36 dc36 pm36 an36 cd36 ct36), sl36⟩) (c_36 : PySem.W.codeIn K cd36 "strokes_of" = true) (k_36 : PySem.W.keepIn K (.ref f36) = true)
    (a_37 : PySem.W.nsIn K mainGlobals "colours_of" = some (some (.ref f37))) (l_37 : K.lookup f37 = some ⟨oc37, od37, .func (PySem.W.fnOf "colours_of" "colours_of" (defArgs s_colours_of) (defBody s_colours_of) (defScope s_colours_of) .none kV37 dc37 pm37 an37 cd37 ct37), sl37⟩) (c_37 : PySem.W.codeIn K cd37 "colours_of" = true) (k_37 : PySem.W.keepIn K (.ref f37) = true)
    (a_38 : PySem.W.nsIn K mainGlobals "holds" = some (some (.ref f38))) (l_38 : K.lookup f38 = some ⟨oc38, od38, .func (PySem.W.fnOf "holds" "holds" (defArgs s_holds) (defBody s_holds) (defScope s_holds) .none kV38 dc38 pm38 an38 cd38 ct38), sl38⟩) (c_38 : PySem.W.codeIn K cd38 "holds" = true) (k_38 : PySem.W.keepIn K (.ref f38) = true)
    (a_39 : PySem.W.nsIn K mainGlobals "span_of" = some (some (.ref f39))) (l_39 : K.lookup f39 = some ⟨oc39, od39, .func (PySem.W.fnOf "span_of" "span_of" (defArgs s_span_of) (defBody s_span_of) (defScope s_span_of) .none kV39 dc39 pm39 an39 cd39 ct39), sl39⟩) (c_39 : PySem.W.codeIn K cd39 "span_of" = true) (k_39 : PySem.W.keepIn K (.ref f39) = true)
    (a_40 : PySem.W.nsIn K mainGlobals "spans_on" = some (some (.ref f40))) (l_40 : K.lookup f40 = some ⟨oc40, od40, .func (PySem.W.fnOf "spans_on" "spans_on" (defArgs s_spans_on) (defBody s_spans_on) (defScope s_spans_on) .none kV40 dc40 pm40 an40 cd40 ct40), sl40⟩) (c_40 : PySem.W.codeIn K cd40 "spans_on" = true) (k_40 : PySem.W.keepIn K (.ref f40) = true)
    (a_41 : PySem.W.nsIn K mainGlobals "stack_at" = some (some (.ref f41))) (l_41 : K.lookup f41 = some ⟨oc41, od41, .func (PySem.W.fnOf "stack_at" "stack_at" (defArgs s_stack_at) (defBody s_stack_at) (defScope s_stack_at) .none kV41 dc41 pm41 an41 cd41 ct41), sl41⟩) (c_41 : PySem.W.codeIn K cd41 "stack_at" = true) (k_41 : PySem.W.keepIn K (.ref f41) = true)
    (a_42 : PySem.W.nsIn K mainGlobals "cover_of" = some (some (.ref f42))) (l_42 : K.lookup f42 = some ⟨oc42, od42, .func (PySem.W.fnOf "cover_of" "cover_of" (defArgs s_cover_of) (defBody s_cover_of) (defScope s_cover_of) .none kV42 dc42 pm42 an42 cd42 ct42), sl42⟩) (c_42 : PySem.W.codeIn K cd42 "cover_of" = true) (k_42 : PySem.W.keepIn K (.ref f42) = true)
    (a_43 : PySem.W.nsIn K mainGlobals "top_stroke" = some (some (.ref f43))) (l_43 : K.lookup f43 = some ⟨oc43, od43, .func (PySem.W.fnOf "top_stroke" "top_stroke" (defArgs s_top_stroke) (defBody s_top_stroke) (defScope s_top_stroke) .none kV43 dc43 pm43 an43 cd43 ct43), sl43⟩) (c_43 : PySem.W.codeIn K cd43 "top_stroke" = true) (k_43 : PySem.W.keepIn K (.ref f43) = true)
    (a_44 : PySem.W.nsIn K mainGlobals "top_colour" = some (some (.ref f44))) (l_44 : K.lookup f44 = some ⟨oc44, od44, .func (PySem.W.fnOf "top_colour" "top_colour" (defArgs s_top_colour) (defBody s_top_colour) (defScope s_top_colour) .none kV44 dc44 pm44 an44 cd44 ct44), sl44⟩) (c_44 : PySem.W.codeIn K cd44 "top_colour" = true) (k_44 : PySem.W.keepIn K (.ref f44) = true)
    (a_46 : PySem.W.nsIn K mainGlobals "unlike_before" = some (some (.ref f46))) (l_46 : K.lookup f46 = some ⟨oc46, od46, .func (PySem.W.fnOf "unlike_before" "unlike_before" (defArgs s_unlike_before) (defBody s_unlike_before) (defScope s_unlike_before) .none kV46 dc46 pm46 an46 cd46 ct46), sl46⟩) (c_46 : PySem.W.codeIn K cd46 "unlike_before" = true) (k_46 : PySem.W.keepIn K (.ref f46) = true)
    (a_47 : PySem.W.nsIn K mainGlobals "framed" = some (some (.ref f47))) (l_47 : K.lookup f47 = some ⟨oc47, od47, .func (PySem.W.fnOf "framed" "framed" (defArgs s_framed) (defBody s_framed) (defScope s_framed) .none kV47 dc47 pm47 an47 cd47 ct47), sl47⟩) (c_47 : PySem.W.codeIn K cd47 "framed" = true) (k_47 : PySem.W.keepIn K (.ref f47) = true)
    (a_48 : PySem.W.nsIn K mainGlobals "painted" = some (some (.ref f48))) (l_48 : K.lookup f48 = some ⟨oc48, od48, .func (PySem.W.fnOf "painted" "painted" (defArgs s_painted) (defBody s_painted) (defScope s_painted) .none kV48 dc48 pm48 an48 cd48 ct48), sl48⟩) (c_48 : PySem.W.codeIn K cd48 "painted" = true) (k_48 : PySem.W.keepIn K (.ref f48) = true)
    (a_49 : PySem.W.nsIn K mainGlobals "picture_of" = some (some (.ref f49))) (l_49 : K.lookup f49 = some ⟨oc49, od49, .func (PySem.W.fnOf "picture_of" "picture_of" (defArgs s_picture_of) (defBody s_picture_of) (defScope s_picture_of) .none kV49 dc49 pm49 an49 cd49 ct49), sl49⟩) (c_49 : PySem.W.codeIn K cd49 "picture_of" = true) (k_49 : PySem.W.keepIn K (.ref f49) = true)
    (a_50 : PySem.W.nsIn K mainGlobals "picture" = some (some (.ref f50))) (l_50 : K.lookup f50 = some ⟨oc50, od50, .func (PySem.W.fnOf "picture" "picture" (defArgs s_picture) (defBody s_picture) (defScope s_picture) .none kV50 dc50 pm50 an50 cd50 ct50), sl50⟩) (c_50 : PySem.W.codeIn K cd50 "picture" = true) (k_50 : PySem.W.keepIn K (.ref f50) = true)
    (a_51 : PySem.W.nsIn K mainGlobals "look" = some (some (.ref f51))) (l_51 : K.lookup f51 = some ⟨oc51, od51, .func (PySem.W.fnOf "look" "look" (defArgs s_look) (defBody s_look) (defScope s_look) .none kV51 dc51 pm51 an51 cd51 ct51), sl51⟩) (c_51 : PySem.W.codeIn K cd51 "look" = true) (k_51 : PySem.W.keepIn K (.ref f51) = true)
    (a_53 : PySem.W.nsIn K mainGlobals "_law_deck" = some (some (.ref f53))) (l_53 : K.lookup f53 = some ⟨oc53, od53, .func (PySem.W.fnOf "_law_deck" "_law_deck" (defArgs s__law_deck) (defBody s__law_deck) (defScope s__law_deck) .none kV53 dc53 pm53 an53 cd53 ct53), sl53⟩) (c_53 : PySem.W.codeIn K cd53 "_law_deck" = true) (k_53 : PySem.W.keepIn K (.ref f53) = true)
    (a_54 : PySem.W.nsIn K mainGlobals "_law_take" = some (some (.ref f54))) (l_54 : K.lookup f54 = some ⟨oc54, od54, .func (PySem.W.fnOf "_law_take" "_law_take" (defArgs s__law_take) (defBody s__law_take) (defScope s__law_take) .none kV54 dc54 pm54 an54 cd54 ct54), sl54⟩) (c_54 : PySem.W.codeIn K cd54 "_law_take" = true) (k_54 : PySem.W.keepIn K (.ref f54) = true)
    (a_55 : PySem.W.nsIn K mainGlobals "_law_corner" = some (some (.ref f55))) (l_55 : K.lookup f55 = some ⟨oc55, od55, .func (PySem.W.fnOf "_law_corner" "_law_corner" (defArgs s__law_corner) (defBody s__law_corner) (defScope s__law_corner) .none kV55 dc55 pm55 an55 cd55 ct55), sl55⟩) (c_55 : PySem.W.codeIn K cd55 "_law_corner" = true) (k_55 : PySem.W.keepIn K (.ref f55) = true)
    (a_56 : PySem.W.nsIn K mainGlobals "_law_box" = some (some (.ref f56))) (l_56 : K.lookup f56 = some ⟨oc56, od56, .func (PySem.W.fnOf "_law_box" "_law_box" (defArgs s__law_box) (defBody s__law_box) (defScope s__law_box) .none kV56 dc56 pm56 an56 cd56 ct56), sl56⟩) (c_56 : PySem.W.codeIn K cd56 "_law_box" = true) (k_56 : PySem.W.keepIn K (.ref f56) = true)
    (a_57 : PySem.W.nsIn K mainGlobals "_law_statement" = some (some (.ref f57))) (l_57 : K.lookup f57 = some ⟨oc57, od57, .func (PySem.W.fnOf "_law_statement" "_law_statement" (defArgs s__law_statement) (defBody s__law_statement) (defScope s__law_statement) .none kV57 dc57 pm57 an57 cd57 ct57), sl57⟩) (c_57 : PySem.W.codeIn K cd57 "_law_statement" = true) (k_57 : PySem.W.keepIn K (.ref f57) = true)
    (a_58 : PySem.W.nsIn K mainGlobals "_law_program" = some (some (.ref f58))) (l_58 : K.lookup f58 = some ⟨oc58, od58, .func (PySem.W.fnOf "_law_program" "_law_program" (defArgs s__law_program) (defBody s__law_program) (defScope s__law_program) .none kV58 dc58 pm58 an58 cd58 ct58), sl58⟩) (c_58 : PySem.W.codeIn K cd58 "_law_program" = true) (k_58 : PySem.W.keepIn K (.ref f58) = true)
    (a_59 : PySem.W.nsIn K mainGlobals "_law_home" = some (some (.ref f59))) (l_59 : K.lookup f59 = some ⟨oc59, od59, .func (PySem.W.fnOf "_law_home" "_law_home" (defArgs s__law_home) (defBody s__law_home) (defScope s__law_home) .none kV59 dc59 pm59 an59 cd59 ct59), sl59⟩) (c_59 : PySem.W.codeIn K cd59 "_law_home" = true) (k_59 : PySem.W.keepIn K (.ref f59) = true)
    (a_60 : PySem.W.nsIn K mainGlobals "_law_setting" = some (some (.ref f60))) (l_60 : K.lookup f60 = some ⟨oc60, od60, .func (PySem.W.fnOf "_law_setting" "_law_setting" (defArgs s__law_setting) (defBody s__law_setting) (defScope s__law_setting) .none kV60 dc60 pm60 an60 cd60 ct60), sl60⟩) (c_60 : PySem.W.codeIn K cd60 "_law_setting" = true) (k_60 : PySem.W.keepIn K (.ref f60) = true)
    (a_61 : PySem.W.nsIn K mainGlobals "_law_inside" = some (some (.ref f61))) (l_61 : K.lookup f61 = some ⟨oc61, od61, .func (PySem.W.fnOf "_law_inside" "_law_inside" (defArgs s__law_inside) (defBody s__law_inside) (defScope s__law_inside) .none kV61 dc61 pm61 an61 cd61 ct61), sl61⟩) (c_61 : PySem.W.codeIn K cd61 "_law_inside" = true) (k_61 : PySem.W.keepIn K (.ref f61) = true)
    (a_62 : PySem.W.nsIn K mainGlobals "_law_numbers" = some (some (.ref f62))) (l_62 : K.lookup f62 = some ⟨oc62, od62, .func (PySem.W.fnOf "_law_numbers" "_law_numbers" (defArgs s__law_numbers) (defBody s__law_numbers) (defScope s__law_numbers) .none kV62 dc62 pm62 an62 cd62 ct62), sl62⟩) (c_62 : PySem.W.codeIn K cd62 "_law_numbers" = true) (k_62 : PySem.W.keepIn K (.ref f62) = true)
    (a_63 : PySem.W.nsIn K mainGlobals "_law_layers" = some (some (.ref f63))) (l_63 : K.lookup f63 = some ⟨oc63, od63, .func (PySem.W.fnOf "_law_layers" "_law_layers" (defArgs s__law_layers) (defBody s__law_layers) (defScope s__law_layers) .none kV63 dc63 pm63 an63 cd63 ct63), sl63⟩) (c_63 : PySem.W.codeIn K cd63 "_law_layers" = true) (k_63 : PySem.W.keepIn K (.ref f63) = true)
    (a_64 : PySem.W.nsIn K mainGlobals "_law_top" = some (some (.ref f64))) (l_64 : K.lookup f64 = some ⟨oc64, od64, .func (PySem.W.fnOf "_law_top" "_law_top" (defArgs s__law_top) (defBody s__law_top) (defScope s__law_top) .none kV64 dc64 pm64 an64 cd64 ct64), sl64⟩) (c_64 : PySem.W.codeIn K cd64 "_law_top" = true) (k_64 : PySem.W.keepIn K (.ref f64) = true)
    (a_65 : PySem.W.nsIn K mainGlobals "_law_laid" = some (some (.ref f65))) (l_65 : K.lookup f65 = some ⟨oc65, od65, .func (PySem.W.fnOf "_law_laid" "_law_laid" (defArgs s__law_laid) (defBody s__law_laid) (defScope s__law_laid) .none kV65 dc65 pm65 an65 cd65 ct65), sl65⟩) (c_65 : PySem.W.codeIn K cd65 "_law_laid" = true) (k_65 : PySem.W.keepIn K (.ref f65) = true)
    (a_66 : PySem.W.nsIn K mainGlobals "_law_picture" = some (some (.ref f66))) (l_66 : K.lookup f66 = some ⟨oc66, od66, .func (PySem.W.fnOf "_law_picture" "_law_picture" (defArgs s__law_picture) (defBody s__law_picture) (defScope s__law_picture) .none kV66 dc66 pm66 an66 cd66 ct66), sl66⟩) (c_66 : PySem.W.codeIn K cd66 "_law_picture" = true) (k_66 : PySem.W.keepIn K (.ref f66) = true)
    (a_67 : PySem.W.nsIn K mainGlobals "_law_right" = some (some (.ref f67))) (l_67 : K.lookup f67 = some ⟨oc67, od67, .func (PySem.W.fnOf "_law_right" "_law_right" (defArgs s__law_right) (defBody s__law_right) (defScope s__law_right) .none kV67 dc67 pm67 an67 cd67 ct67), sl67⟩) (c_67 : PySem.W.codeIn K cd67 "_law_right" = true) (k_67 : PySem.W.keepIn K (.ref f67) = true)
    (a_68 : PySem.W.nsIn K mainGlobals "law" = some (some (.ref f68))) (l_68 : K.lookup f68 = some ⟨oc68, od68, .func (PySem.W.fnOf "law" "law" (defArgs s_law) (defBody s_law) (defScope s_law) .none kV68 dc68 pm68 an68 cd68 ct68), sl68⟩) (c_68 : PySem.W.codeIn K cd68 "law" = true) (k_68 : PySem.W.keepIn K (.ref f68) = true)
    (g_MOST_UNKNOWNS : PySem.W.nsIn K mainGlobals "MOST_UNKNOWNS" = some (some (.int 3 t_MOST_UNKNOWNS)))
    (g_MOST_AMOUNT : PySem.W.nsIn K mainGlobals "MOST_AMOUNT" = some (some (.int 9 t_MOST_AMOUNT)))
    (g_MOST_COLOUR : PySem.W.nsIn K mainGlobals "MOST_COLOUR" = some (some (.int 9 t_MOST_COLOUR)))
    (z_ValueError : PySem.W.nsIn K mainGlobals "ValueError" = some none)
    (z_abs : PySem.W.nsIn K mainGlobals "abs" = some none)
    (z_all : PySem.W.nsIn K mainGlobals "all" = some none)
    (z_enumerate : PySem.W.nsIn K mainGlobals "enumerate" = some none)
    (z_int : PySem.W.nsIn K mainGlobals "int" = some none)
    (z_len : PySem.W.nsIn K mainGlobals "len" = some none)
    (z_list : PySem.W.nsIn K mainGlobals "list" = some none)
    (z_max : PySem.W.nsIn K mainGlobals "max" = some none)
    (z_min : PySem.W.nsIn K mainGlobals "min" = some none)
    (z_range : PySem.W.nsIn K mainGlobals "range" = some none)
    (z_repr : PySem.W.nsIn K mainGlobals "repr" = some none)
    (z_set : PySem.W.nsIn K mainGlobals "set" = some none)
    (z_sorted : PySem.W.nsIn K mainGlobals "sorted" = some none)
    (z_str : PySem.W.nsIn K mainGlobals "str" = some none)
    (z_sum : PySem.W.nsIn K mainGlobals "sum" = some none)
    (z_tuple : PySem.W.nsIn K mainGlobals "tuple" = some none)
    (z_type : PySem.W.nsIn K mainGlobals "type" = some none)
    (z_zip : PySem.W.nsIn K mainGlobals "zip" = some none)
    {u_U u_1 u_2 u_3 : Addr} {uo_U uo_1 uo_2 uo_3 : Option Addr} {us_U us_1 us_2 us_3 : Array (Option Value)} {un_U un_1 un_2 un_3 : Nat}
    (ub_g : PySem.W.nsIn K mainGlobals "UNBOUNDED" = some (some (.ref u_U)))
    (ub_l : K.lookup u_U = some ⟨.type "tuple", uo_U, .seq #[.ref u_1, .ref u_2, .ref u_3] un_U, us_U⟩)
    (ub_1 : K.lookup u_1 = some ⟨.type "tuple", uo_1, .seq #[] un_1, us_1⟩)
    (ub_2 : K.lookup u_2 = some ⟨.type "tuple", uo_2, .seq #[] un_2, us_2⟩)
    (ub_3 : K.lookup u_3 = some ⟨.type "tuple", uo_3, .seq #[] un_3, us_3⟩)
    : ∃ fd : FuncData, (∀ (s : Shared) (v : Value), BindsTo s fd ⟨[v], []⟩ [("script", v)]) ∧ ∀ base : Heap, K.In base → base.Ns mainGlobals mg → FnG l.prog w K mg base CX0 27 fL fd ["script"] (spLaw K) := by
  have e := hfa.symm.trans (PySem.W.mg_of X G a_68)
  cases e
  have T : Txt K mg (fun i => match i with | 9 => f9 | 10 => f10 | 11 => f11 | 12 => f12 | 13 => f13 | 14 => f14 | 15 => f15 | 16 => f16 | 17 => f17 | 18 => f18 | 19 => f19 | 20 => f20 | 21 => f21 | 22 => f22 | 23 => f23 | 25 => f25 | 26 => f26 | 27 => f27 | 30 => f30 | 31 => f31 | 32 => f32 | 33 => f33 | 34 => f34 | 35 => f35 | 36 => f36 | 37 => f37 | 38 => f38 | 39 => f39 | 40 => f40 | 41 => f41 | 42 => f42 | 43 => f43 | 44 => f44 | 46 => f46 | 47 => f47 | 48 => f48 | 49 => f49 | 50 => f50 | 51 => f51 | 53 => f53 | 54 => f54 | 55 => f55 | 56 => f56 | 57 => f57 | 58 => f58 | 59 => f59 | 60 => f60 | 61 => f61 | 62 => f62 | 63 => f63 | 64 => f64 | 65 => f65 | 66 => f66 | 67 => f67 | 68 => fL | _ => 0) (fun i => match i with | 9 => PySem.W.fnOf "is_within" "is_within" (defArgs s_is_within) (defBody s_is_within) (defScope s_is_within) .none kV9 dc9 pm9 an9 cd9 ct9 | 10 => PySem.W.fnOf "is_tuple_of" "is_tuple_of" (defArgs s_is_tuple_of) (defBody s_is_tuple_of) (defScope s_is_tuple_of) .none kV10 dc10 pm10 an10 cd10 ct10 | 11 => PySem.W.fnOf "is_axis" "is_axis" (defArgs s_is_axis) (defBody s_is_axis) (defScope s_is_axis) .none kV11 dc11 pm11 an11 cd11 ct11 | 12 => PySem.W.fnOf "is_frame" "is_frame" (defArgs s_is_frame) (defBody s_is_frame) (defScope s_is_frame) .none kV12 dc12 pm12 an12 cd12 ct12 | 13 => PySem.W.fnOf "need_frame" "need_frame" (defArgs s_need_frame) (defBody s_need_frame) (defScope s_need_frame) .none kV13 dc13 pm13 an13 cd13 ct13 | 14 => PySem.W.fnOf "on_axis" "on_axis" (defArgs s_on_axis) (defBody s_on_axis) (defScope s_on_axis) .none kV14 dc14 pm14 an14 cd14 ct14 | 15 => PySem.W.fnOf "is_amount" "is_amount" (defArgs s_is_amount) (defBody s_is_amount) (defScope s_is_amount) .none kV15 dc15 pm15 an15 cd15 ct15 | 16 => PySem.W.fnOf "is_colour" "is_colour" (defArgs s_is_colour) (defBody s_is_colour) (defScope s_is_colour) .none kV16 dc16 pm16 an16 cd16 ct16 | 17 => PySem.W.fnOf "is_corner" "is_corner" (defArgs s_is_corner) (defBody s_is_corner) (defScope s_is_corner) .none kV17 dc17 pm17 an17 cd17 ct17 | 18 => PySem.W.fnOf "is_box" "is_box" (defArgs s_is_box) (defBody s_is_box) (defScope s_is_box) .none kV18 dc18 pm18 an18 cd18 ct18 | 19 => PySem.W.fnOf "is_test" "is_test" (defArgs s_is_test) (defBody s_is_test) (defScope s_is_test) .none kV19 dc19 pm19 an19 cd19 ct19 | 20 => PySem.W.fnOf "is_statement" "is_statement" (defArgs s_is_statement) (defBody s_is_statement) (defScope s_is_statement) .none kV20 dc20 pm20 an20 cd20 ct20 | 21 => PySem.W.fnOf "is_program" "is_program" (defArgs s_is_program) (defBody s_is_program) (defScope s_is_program) .none kV21 dc21 pm21 an21 cd21 ct21 | 22 => PySem.W.fnOf "need_program" "need_program" (defArgs s_need_program) (defBody s_need_program) (defScope s_need_program) .none kV22 dc22 pm22 an22 cd22 ct22 | 23 => PySem.W.fnOf "moved_further" "moved_further" (defArgs s_moved_further) (defBody s_moved_further) (defScope s_moved_further) .none kV23 dc23 pm23 an23 cd23 ct23 | 25 => PySem.W.fnOf "is_row" "is_row" (defArgs s_is_row) (defBody s_is_row) (defScope s_is_row) .none kV25 dc25 pm25 an25 cd25 ct25 | 26 => PySem.W.fnOf "is_setting" "is_setting" (defArgs s_is_setting) (defBody s_is_setting) (defScope s_is_setting) .none kV26 dc26 pm26 an26 cd26 ct26 | 27 => PySem.W.fnOf "need_setting" "need_setting" (defArgs s_need_setting) (defBody s_need_setting) (defScope s_need_setting) .none kV27 dc27 pm27 an27 cd27 ct27 | 30 => PySem.W.fnOf "moved_corner" "moved_corner" (defArgs s_moved_corner) (defBody s_moved_corner) (defScope s_moved_corner) .none kV30 dc30 pm30 an30 cd30 ct30 | 31 => PySem.W.fnOf "narrowed" "narrowed" (defArgs s_narrowed) (defBody s_narrowed) (defScope s_narrowed) .none kV31 dc31 pm31 an31 cd31 ct31 | 32 => PySem.W.fnOf "boxed" "boxed" (defArgs s_boxed) (defBody s_boxed) (defScope s_boxed) .none kV32 dc32 pm32 an32 cd32 ct32 | 33 => PySem.W.fnOf "tested" "tested" (defArgs s_tested) (defBody s_tested) (defScope s_tested) .none kV33 dc33 pm33 an33 cd33 ct33 | 34 => PySem.W.fnOf "parts_inside" "parts_inside" (defArgs s_parts_inside) (defBody s_parts_inside) (defScope s_parts_inside) .none kV34 dc34 pm34 an34 cd34 ct34 | 35 => PySem.W.fnOf "strokes_in" "strokes_in" (defArgs s_strokes_in) (defBody s_strokes_in) (defScope s_strokes_in) .none kV35 dc35 pm35 an35 cd35 ct35 | 36 => PySem.W.fnOf "strokes_of" "strokes_of" (defArgs s_strokes_of) (defBody s_strokes_of) (defScope s_strokes_of) .none kV36 dc36 pm36 an36 cd36 ct36 | 37 => PySem.W.fnOf "colours_of" "colours_of" (defArgs s_colours_of) (defBody s_colours_of) (defScope s_colours_of) .none kV37 dc37 pm37 an37 cd37 ct37 | 38 => PySem.W.fnOf "holds" "holds" (defArgs s_holds) (defBody s_holds) (defScope s_holds) .none kV38 dc38 pm38 an38 cd38 ct38 | 39 => PySem.W.fnOf "span_of" "span_of" (defArgs s_span_of) (defBody s_span_of) (defScope s_span_of) .none kV39 dc39 pm39 an39 cd39 ct39 | 40 => PySem.W.fnOf "spans_on" "spans_on" (defArgs s_spans_on) (defBody s_spans_on) (defScope s_spans_on) .none kV40 dc40 pm40 an40 cd40 ct40 | 41 => PySem.W.fnOf "stack_at" "stack_at" (defArgs s_stack_at) (defBody s_stack_at) (defScope s_stack_at) .none kV41 dc41 pm41 an41 cd41 ct41 | 42 => PySem.W.fnOf "cover_of" "cover_of" (defArgs s_cover_of) (defBody s_cover_of) (defScope s_cover_of) .none kV42 dc42 pm42 an42 cd42 ct42 | 43 => PySem.W.fnOf "top_stroke" "top_stroke" (defArgs s_top_stroke) (defBody s_top_stroke) (defScope s_top_stroke) .none kV43 dc43 pm43 an43 cd43 ct43 | 44 => PySem.W.fnOf "top_colour" "top_colour" (defArgs s_top_colour) (defBody s_top_colour) (defScope s_top_colour) .none kV44 dc44 pm44 an44 cd44 ct44 | 46 => PySem.W.fnOf "unlike_before" "unlike_before" (defArgs s_unlike_before) (defBody s_unlike_before) (defScope s_unlike_before) .none kV46 dc46 pm46 an46 cd46 ct46 | 47 => PySem.W.fnOf "framed" "framed" (defArgs s_framed) (defBody s_framed) (defScope s_framed) .none kV47 dc47 pm47 an47 cd47 ct47 | 48 => PySem.W.fnOf "painted" "painted" (defArgs s_painted) (defBody s_painted) (defScope s_painted) .none kV48 dc48 pm48 an48 cd48 ct48 | 49 => PySem.W.fnOf "picture_of" "picture_of" (defArgs s_picture_of) (defBody s_picture_of) (defScope s_picture_of) .none kV49 dc49 pm49 an49 cd49 ct49 | 50 => PySem.W.fnOf "picture" "picture" (defArgs s_picture) (defBody s_picture) (defScope s_picture) .none kV50 dc50 pm50 an50 cd50 ct50 | 51 => PySem.W.fnOf "look" "look" (defArgs s_look) (defBody s_look) (defScope s_look) .none kV51 dc51 pm51 an51 cd51 ct51 | 53 => PySem.W.fnOf "_law_deck" "_law_deck" (defArgs s__law_deck) (defBody s__law_deck) (defScope s__law_deck) .none kV53 dc53 pm53 an53 cd53 ct53 | 54 => PySem.W.fnOf "_law_take" "_law_take" (defArgs s__law_take) (defBody s__law_take) (defScope s__law_take) .none kV54 dc54 pm54 an54 cd54 ct54 | 55 => PySem.W.fnOf "_law_corner" "_law_corner" (defArgs s__law_corner) (defBody s__law_corner) (defScope s__law_corner) .none kV55 dc55 pm55 an55 cd55 ct55 | 56 => PySem.W.fnOf "_law_box" "_law_box" (defArgs s__law_box) (defBody s__law_box) (defScope s__law_box) .none kV56 dc56 pm56 an56 cd56 ct56 | 57 => PySem.W.fnOf "_law_statement" "_law_statement" (defArgs s__law_statement) (defBody s__law_statement) (defScope s__law_statement) .none kV57 dc57 pm57 an57 cd57 ct57 | 58 => PySem.W.fnOf "_law_program" "_law_program" (defArgs s__law_program) (defBody s__law_program) (defScope s__law_program) .none kV58 dc58 pm58 an58 cd58 ct58 | 59 => PySem.W.fnOf "_law_home" "_law_home" (defArgs s__law_home) (defBody s__law_home) (defScope s__law_home) .none kV59 dc59 pm59 an59 cd59 ct59 | 60 => PySem.W.fnOf "_law_setting" "_law_setting" (defArgs s__law_setting) (defBody s__law_setting) (defScope s__law_setting) .none kV60 dc60 pm60 an60 cd60 ct60 | 61 => PySem.W.fnOf "_law_inside" "_law_inside" (defArgs s__law_inside) (defBody s__law_inside) (defScope s__law_inside) .none kV61 dc61 pm61 an61 cd61 ct61 | 62 => PySem.W.fnOf "_law_numbers" "_law_numbers" (defArgs s__law_numbers) (defBody s__law_numbers) (defScope s__law_numbers) .none kV62 dc62 pm62 an62 cd62 ct62 | 63 => PySem.W.fnOf "_law_layers" "_law_layers" (defArgs s__law_layers) (defBody s__law_layers) (defScope s__law_layers) .none kV63 dc63 pm63 an63 cd63 ct63 | 64 => PySem.W.fnOf "_law_top" "_law_top" (defArgs s__law_top) (defBody s__law_top) (defScope s__law_top) .none kV64 dc64 pm64 an64 cd64 ct64 | 65 => PySem.W.fnOf "_law_laid" "_law_laid" (defArgs s__law_laid) (defBody s__law_laid) (defScope s__law_laid) .none kV65 dc65 pm65 an65 cd65 ct65 | 66 => PySem.W.fnOf "_law_picture" "_law_picture" (defArgs s__law_picture) (defBody s__law_picture) (defScope s__law_picture) .none kV66 dc66 pm66 an66 cd66 ct66 | 67 => PySem.W.fnOf "_law_right" "_law_right" (defArgs s__law_right) (defBody s__law_right) (defScope s__law_right) .none kV67 dc67 pm67 an67 cd67 ct67 | 68 => PySem.W.fnOf "law" "law" (defArgs s_law) (defBody s_law) (defScope s_law) .none kV68 dc68 pm68 an68 cd68 ct68 | _ => PySem.W.fnOf "" "" (defArgs s_law) [] (defScope s_law) .none .none .none .none none .none .none) := {
    d_is_within := ⟨fun_mk (st := s_is_within) l_9 c_9 k_9, PySem.W.mg_of X G a_9⟩
    d_is_tuple_of := ⟨fun_mk (st := s_is_tuple_of) l_10 c_10 k_10, PySem.W.mg_of X G a_10⟩
    d_is_axis := ⟨fun_mk (st := s_is_axis) l_11 c_11 k_11, PySem.W.mg_of X G a_11⟩
    d_is_frame := ⟨fun_mk (st := s_is_frame) l_12 c_12 k_12, PySem.W.mg_of X G a_12⟩
    d_need_frame := ⟨fun_mk (st := s_need_frame) l_13 c_13 k_13, PySem.W.mg_of X G a_13⟩
    d_on_axis := ⟨fun_mk (st := s_on_axis) l_14 c_14 k_14, PySem.W.mg_of X G a_14⟩
    d_is_amount := ⟨fun_mk (st := s_is_amount) l_15 c_15 k_15, PySem.W.mg_of X G a_15⟩
    d_is_colour := ⟨fun_mk (st := s_is_colour) l_16 c_16 k_16, PySem.W.mg_of X G a_16⟩
    d_is_corner := ⟨fun_mk (st := s_is_corner) l_17 c_17 k_17, PySem.W.mg_of X G a_17⟩
    d_is_box := ⟨fun_mk (st := s_is_box) l_18 c_18 k_18, PySem.W.mg_of X G a_18⟩
    d_is_test := ⟨fun_mk (st := s_is_test) l_19 c_19 k_19, PySem.W.mg_of X G a_19⟩
    d_is_statement := ⟨fun_mk (st := s_is_statement) l_20 c_20 k_20, PySem.W.mg_of X G a_20⟩
    d_is_program := ⟨fun_mk (st := s_is_program) l_21 c_21 k_21, PySem.W.mg_of X G a_21⟩
    d_need_program := ⟨fun_mk (st := s_need_program) l_22 c_22 k_22, PySem.W.mg_of X G a_22⟩
    d_moved_further := ⟨fun_mk (st := s_moved_further) l_23 c_23 k_23, PySem.W.mg_of X G a_23⟩
    d_is_row := ⟨fun_mk (st := s_is_row) l_25 c_25 k_25, PySem.W.mg_of X G a_25⟩
    d_is_setting := ⟨fun_mk (st := s_is_setting) l_26 c_26 k_26, PySem.W.mg_of X G a_26⟩
    d_need_setting := ⟨fun_mk (st := s_need_setting) l_27 c_27 k_27, PySem.W.mg_of X G a_27⟩
    d_moved_corner := ⟨fun_mk (st := s_moved_corner) l_30 c_30 k_30, PySem.W.mg_of X G a_30⟩
    d_narrowed := ⟨fun_mk (st := s_narrowed) l_31 c_31 k_31, PySem.W.mg_of X G a_31⟩
    d_boxed := ⟨fun_mk (st := s_boxed) l_32 c_32 k_32, PySem.W.mg_of X G a_32⟩
    d_tested := ⟨fun_mk (st := s_tested) l_33 c_33 k_33, PySem.W.mg_of X G a_33⟩
    d_parts_inside := ⟨fun_mk (st := s_parts_inside) l_34 c_34 k_34, PySem.W.mg_of X G a_34⟩
    d_strokes_in := ⟨fun_mk (st := s_strokes_in) l_35 c_35 k_35, PySem.W.mg_of X G a_35⟩
    d_strokes_of := ⟨fun_mk (st := s_strokes_of) l_36 c_36 k_36, PySem.W.mg_of X G a_36⟩
    d_colours_of := ⟨fun_mk (st := s_colours_of) l_37 c_37 k_37, PySem.W.mg_of X G a_37⟩
    d_holds := ⟨fun_mk (st := s_holds) l_38 c_38 k_38, PySem.W.mg_of X G a_38⟩
    d_span_of := ⟨fun_mk (st := s_span_of) l_39 c_39 k_39, PySem.W.mg_of X G a_39⟩
    d_spans_on := ⟨fun_mk (st := s_spans_on) l_40 c_40 k_40, PySem.W.mg_of X G a_40⟩
    d_stack_at := ⟨fun_mk (st := s_stack_at) l_41 c_41 k_41, PySem.W.mg_of X G a_41⟩
    d_cover_of := ⟨fun_mk (st := s_cover_of) l_42 c_42 k_42, PySem.W.mg_of X G a_42⟩
    d_top_stroke := ⟨fun_mk (st := s_top_stroke) l_43 c_43 k_43, PySem.W.mg_of X G a_43⟩
    d_top_colour := ⟨fun_mk (st := s_top_colour) l_44 c_44 k_44, PySem.W.mg_of X G a_44⟩
    d_unlike_before := ⟨fun_mk (st := s_unlike_before) l_46 c_46 k_46, PySem.W.mg_of X G a_46⟩
    d_framed := ⟨fun_mk (st := s_framed) l_47 c_47 k_47, PySem.W.mg_of X G a_47⟩
    d_painted := ⟨fun_mk (st := s_painted) l_48 c_48 k_48, PySem.W.mg_of X G a_48⟩
    d_picture_of := ⟨fun_mk (st := s_picture_of) l_49 c_49 k_49, PySem.W.mg_of X G a_49⟩
    d_picture := ⟨fun_mk (st := s_picture) l_50 c_50 k_50, PySem.W.mg_of X G a_50⟩
    d_look := ⟨fun_mk (st := s_look) l_51 c_51 k_51, PySem.W.mg_of X G a_51⟩
    d__law_deck := ⟨fun_mk (st := s__law_deck) l_53 c_53 k_53, PySem.W.mg_of X G a_53⟩
    d__law_take := ⟨fun_mk (st := s__law_take) l_54 c_54 k_54, PySem.W.mg_of X G a_54⟩
    d__law_corner := ⟨fun_mk (st := s__law_corner) l_55 c_55 k_55, PySem.W.mg_of X G a_55⟩
    d__law_box := ⟨fun_mk (st := s__law_box) l_56 c_56 k_56, PySem.W.mg_of X G a_56⟩
    d__law_statement := ⟨fun_mk (st := s__law_statement) l_57 c_57 k_57, PySem.W.mg_of X G a_57⟩
    d__law_program := ⟨fun_mk (st := s__law_program) l_58 c_58 k_58, PySem.W.mg_of X G a_58⟩
    d__law_home := ⟨fun_mk (st := s__law_home) l_59 c_59 k_59, PySem.W.mg_of X G a_59⟩
    d__law_setting := ⟨fun_mk (st := s__law_setting) l_60 c_60 k_60, PySem.W.mg_of X G a_60⟩
    d__law_inside := ⟨fun_mk (st := s__law_inside) l_61 c_61 k_61, PySem.W.mg_of X G a_61⟩
    d__law_numbers := ⟨fun_mk (st := s__law_numbers) l_62 c_62 k_62, PySem.W.mg_of X G a_62⟩
    d__law_layers := ⟨fun_mk (st := s__law_layers) l_63 c_63 k_63, PySem.W.mg_of X G a_63⟩
    d__law_top := ⟨fun_mk (st := s__law_top) l_64 c_64 k_64, PySem.W.mg_of X G a_64⟩
    d__law_laid := ⟨fun_mk (st := s__law_laid) l_65 c_65 k_65, PySem.W.mg_of X G a_65⟩
    d__law_picture := ⟨fun_mk (st := s__law_picture) l_66 c_66 k_66, PySem.W.mg_of X G a_66⟩
    d__law_right := ⟨fun_mk (st := s__law_right) l_67 c_67 k_67, PySem.W.mg_of X G a_67⟩
    d_law := ⟨fun_mk (st := s_law) l_68 c_68 k_68, PySem.W.mg_of X G a_68⟩
    k_MOST_UNKNOWNS := ⟨_, PySem.W.mg_of X G g_MOST_UNKNOWNS⟩
    k_MOST_AMOUNT := ⟨_, PySem.W.mg_of X G g_MOST_AMOUNT⟩
    k_MOST_COLOUR := ⟨_, PySem.W.mg_of X G g_MOST_COLOUR⟩
    n_ValueError := PySem.W.mg_none_of X G z_ValueError
    n_abs := PySem.W.mg_none_of X G z_abs
    n_all := PySem.W.mg_none_of X G z_all
    n_enumerate := PySem.W.mg_none_of X G z_enumerate
    n_int := PySem.W.mg_none_of X G z_int
    n_len := PySem.W.mg_none_of X G z_len
    n_list := PySem.W.mg_none_of X G z_list
    n_max := PySem.W.mg_none_of X G z_max
    n_min := PySem.W.mg_none_of X G z_min
    n_range := PySem.W.mg_none_of X G z_range
    n_repr := PySem.W.mg_none_of X G z_repr
    n_set := PySem.W.mg_none_of X G z_set
    n_sorted := PySem.W.mg_none_of X G z_sorted
    n_str := PySem.W.mg_none_of X G z_str
    n_sum := PySem.W.mg_none_of X G z_sum
    n_tuple := PySem.W.mg_none_of X G z_tuple
    n_type := PySem.W.mg_none_of X G z_type
    n_zip := PySem.W.mg_none_of X G z_zip
    u_UNBOUNDED := ub_ok (PySem.W.mg_of X G ub_g) ub_l ub_1 ub_2 ub_3
  }
  exact ⟨PySem.W.fnOf "law" "law" (defArgs s_law) (defBody s_law) (defScope s_law) .none kV68 dc68 pm68 an68 cd68 ct68, fun s v => .of_eq rfl, fun base _ _ => ok_law T⟩
theorem walk {l : PySem.W.OpenLaw} {q : Program} {loose : List Str} {XP : (Str → Option Value) → Heap → Prop} {YP : World → Heap → Prop} {d : DefRec} {K : Params → PySem.W.Frag} (hn : l.most = some 63) (hdf : d.params.defaults = [])
    (hY : ∀ (w : World) (h : Heap), YP w h → (K w.params).In h)
    (F : ∀ (w : World) (mg : Str → Option Value) (fa : Addr) (h : Heap), (K w.params).In h → h.Ns mainGlobals mg → mg d.name = some (.ref fa) →
      ∃ fd : FuncData, (∀ (s : Shared) (u : Value), BindsTo s fd ⟨[u], []⟩ [("script", u)]) ∧ ∀ base : Heap, (K w.params).In base → base.Ns mainGlobals mg → FnG l.prog w (K w.params) mg base CX0 27 fa fd ["script"] (spLaw (K w.params))) :
    PySem.W.WalkO q loose XP YP l.row.toRowW d [] (fun f vs => PySem.call f vs) :=
  walkG (n := 63) (k := 27) (x := "script") (CX := fun _ => CX0) (sp := fun w => spLaw (K w.params)) hn (by decide) hdf ⟨rfl, by decide, by decide⟩ hY F (fun _ _ a ns hl hS => ⟨a, ns, rfl, hS, hl, fun _ => rfl⟩) fun _ _ _ _ _ z => z
end Law
open PySem PySem.W PyProof.Rows in
set_option maxRecDepth 100000 in
set_option maxHeartbeats 0 in
theorem PySem.Challenge.cw_unknowncorners_k18_pictures_cell_by_cell_holds : PySem.Challenge.rw_unknowncorners_k18_pictures_cell_by_cell.Holds := by
  w_on; o_law; k_head; (case hw => w_witness2)
  k_fill
  refine Law.walk (l := PySem.Challenge.rw_unknowncorners_k18_pictures_cell_by_cell) rfl rfl (fun w h Y => PySem.W.kIn_of Y) ?F
  case F =>
    intro w mg fa h KX G hmg
    refine' Law.all_mk KX G hmg ?a_9 ?l_9 ?c_9 ?k_9 ?a_10 ?l_10 ?c_10 ?k_10 ?a_11 ?l_11 ?c_11 ?k_11 ?a_12 ?l_12 ?c_12 ?k_12 ?a_13 ?l_13 ?c_13 ?k_13 ?a_14 ?l_14 ?c_14 ?k_14 ?a_15 ?l_15 ?c_15 ?k_15 ?a_16 ?l_16 ?c_16 ?k_16 ?a_17 ?l_17 ?c_17 ?k_17 ?a_18 ?l_18 ?c_18 ?k_18 ?a_19 ?l_19 ?c_19 ?k_19 ?a_20 ?l_20 ?c_20 ?k_20 ?a_21 ?l_21 ?c_21 ?k_21 ?a_22 ?l_22 ?c_22 ?k_22 ?a_23 ?l_23 ?c_23 ?k_23 ?a_25 ?l_25 ?c_25 ?k_25 ?a_26 ?l_26 ?c_26 ?k_26 ?a_27 ?l_27 ?c_27 ?k_27 ?a_30 ?l_30 ?c_30 ?k_30 ?a_31 ?l_31 ?c_31 ?k_31 ?a_32 ?l_32 ?c_32 ?k_32 ?a_33 ?l_33 ?c_33 ?k_33 ?a_34 ?l_34 ?c_34 ?k_34 ?a_35 ?l_35 ?c_35 ?k_35 ?a_36 ?l_36 ?c_36 ?k_36 ?a_37 ?l_37 ?c_37 ?k_37 ?a_38 ?l_38 ?c_38 ?k_38 ?a_39 ?l_39 ?c_39 ?k_39 ?a_40 ?l_40 ?c_40 ?k_40 ?a_41 ?l_41 ?c_41 ?k_41 ?a_42 ?l_42 ?c_42 ?k_42 ?a_43 ?l_43 ?c_43 ?k_43 ?a_44 ?l_44 ?c_44 ?k_44 ?a_46 ?l_46 ?c_46 ?k_46 ?a_47 ?l_47 ?c_47 ?k_47 ?a_48 ?l_48 ?c_48 ?k_48 ?a_49 ?l_49 ?c_49 ?k_49 ?a_50 ?l_50 ?c_50 ?k_50 ?a_51 ?l_51 ?c_51 ?k_51 ?a_53 ?l_53 ?c_53 ?k_53 ?a_54 ?l_54 ?c_54 ?k_54 ?a_55 ?l_55 ?c_55 ?k_55 ?a_56 ?l_56 ?c_56 ?k_56 ?a_57 ?l_57 ?c_57 ?k_57 ?a_58 ?l_58 ?c_58 ?k_58 ?a_59 ?l_59 ?c_59 ?k_59 ?a_60 ?l_60 ?c_60 ?k_60 ?a_61 ?l_61 ?c_61 ?k_61 ?a_62 ?l_62 ?c_62 ?k_62 ?a_63 ?l_63 ?c_63 ?k_63 ?a_64 ?l_64 ?c_64 ?k_64 ?a_65 ?l_65 ?c_65 ?k_65 ?a_66 ?l_66 ?c_66 ?k_66 ?a_67 ?l_67 ?c_67 ?k_67 ?a_68 ?l_68 ?c_68 ?k_68 ?g_MOST_UNKNOWNS ?g_MOST_AMOUNT ?g_MOST_COLOUR ?z_ValueError ?z_abs ?z_all ?z_enumerate ?z_int ?z_len ?z_list ?z_max ?z_min ?z_range ?z_repr ?z_set ?z_sorted ?z_str ?z_sum ?z_tuple ?z_type ?z_zip ?ub_g ?ub_l ?ub_1 ?ub_2 ?ub_3
    (case a_9 => k_is)
    (case l_9 => k_is)
    (case c_9 => k_is)
    (case k_9 => k_is)
    (case a_10 => k_is)
    (case l_10 => k_is)
    (case c_10 => k_is)
    (case k_10 => k_is)
    (case a_11 => k_is)
    (case l_11 => k_is)
    (case c_11 => k_is)
    (case k_11 => k_is)
    (case a_12 => k_is)
    (case l_12 => k_is)
    (case c_12 => k_is)
    (case k_12 => k_is)
    (case a_13 => k_is)
    (case l_13 => k_is)
    (case c_13 => k_is)
    (case k_13 => k_is)
    (case a_14 => k_is)
    (case l_14 => k_is)
    (case c_14 => k_is)
    (case k_14 => k_is)
    (case a_15 => k_is)
    (case l_15 => k_is)
    (case c_15 => k_is)
    (case k_15 => k_is)
    (case a_16 => k_is)
    (case l_16 => k_is)
    (case c_16 => k_is)
    (case k_16 => k_is)
    (case a_17 => k_is)
    (case l_17 => k_is)
    (case c_17 => k_is)
    (case k_17 => k_is)
    (case a_18 => k_is)
    (case l_18 => k_is)
    (case c_18 => k_is)
    (case k_18 => k_is)
    (case a_19 => k_is)
    (case l_19 => k_is)
    (case c_19 => k_is)
    (case k_19 => k_is)
    (case a_20 => k_is)
    (case l_20 => k_is)
    (case c_20 => k_is)
    (case k_20 => k_is)
    (case a_21 => k_is)
    (case l_21 => k_is)
    (case c_21 => k_is)
    (case k_21 => k_is)
    (case a_22 => k_is)
    (case l_22 => k_is)
    (case c_22 => k_is)
    (case k_22 => k_is)
    (case a_23 => k_is)
    (case l_23 => k_is)
    (case c_23 => k_is)
    (case k_23 => k_is)
    (case a_25 => k_is)
    (case l_25 => k_is)
    (case c_25 => k_is)
    (case k_25 => k_is)
    (case a_26 => k_is)
    (case l_26 => k_is)
    (case c_26 => k_is)
    (case k_26 => k_is)
    (case a_27 => k_is)
    (case l_27 => k_is)
    (case c_27 => k_is)
    (case k_27 => k_is)
    (case a_30 => k_is)
    (case l_30 => k_is)
    (case c_30 => k_is)
    (case k_30 => k_is)
    (case a_31 => k_is)
    (case l_31 => k_is)
    (case c_31 => k_is)
    (case k_31 => k_is)
    (case a_32 => k_is)
    (case l_32 => k_is)
    (case c_32 => k_is)
    (case k_32 => k_is)
    (case a_33 => k_is)
    (case l_33 => k_is)
    (case c_33 => k_is)
    (case k_33 => k_is)
    (case a_34 => k_is)
    (case l_34 => k_is)
    (case c_34 => k_is)
    (case k_34 => k_is)
    (case a_35 => k_is)
    (case l_35 => k_is)
    (case c_35 => k_is)
    (case k_35 => k_is)
    (case a_36 => k_is)
    (case l_36 => k_is)
    (case c_36 => k_is)
    (case k_36 => k_is)
    (case a_37 => k_is)
    (case l_37 => k_is)
    (case c_37 => k_is)
    (case k_37 => k_is)
    (case a_38 => k_is)
    (case l_38 => k_is)
    (case c_38 => k_is)
    (case k_38 => k_is)
    (case a_39 => k_is)
    (case l_39 => k_is)
    (case c_39 => k_is)
    (case k_39 => k_is)
    (case a_40 => k_is)
    (case l_40 => k_is)
    (case c_40 => k_is)
    (case k_40 => k_is)
    (case a_41 => k_is)
    (case l_41 => k_is)
    (case c_41 => k_is)
    (case k_41 => k_is)
    (case a_42 => k_is)
    (case l_42 => k_is)
    (case c_42 => k_is)
    (case k_42 => k_is)
    (case a_43 => k_is)
    (case l_43 => k_is)
    (case c_43 => k_is)
    (case k_43 => k_is)
    (case a_44 => k_is)
    (case l_44 => k_is)
    (case c_44 => k_is)
    (case k_44 => k_is)
    (case a_46 => k_is)
    (case l_46 => k_is)
    (case c_46 => k_is)
    (case k_46 => k_is)
    (case a_47 => k_is)
    (case l_47 => k_is)
    (case c_47 => k_is)
    (case k_47 => k_is)
    (case a_48 => k_is)
    (case l_48 => k_is)
    (case c_48 => k_is)
    (case k_48 => k_is)
    (case a_49 => k_is)
    (case l_49 => k_is)
    (case c_49 => k_is)
    (case k_49 => k_is)
    (case a_50 => k_is)
    (case l_50 => k_is)
    (case c_50 => k_is)
    (case k_50 => k_is)
    (case a_51 => k_is)
    (case l_51 => k_is)
    (case c_51 => k_is)
    (case k_51 => k_is)
    (case a_53 => k_is)
    (case l_53 => k_is)
    (case c_53 => k_is)
    (case k_53 => k_is)
    (case a_54 => k_is)
    (case l_54 => k_is)
    (case c_54 => k_is)
    (case k_54 => k_is)
    (case a_55 => k_is)
    (case l_55 => k_is)
    (case c_55 => k_is)
    (case k_55 => k_is)
    (case a_56 => k_is)
    (case l_56 => k_is)
    (case c_56 => k_is)
    (case k_56 => k_is)
    (case a_57 => k_is)
    (case l_57 => k_is)
    (case c_57 => k_is)
    (case k_57 => k_is)
    (case a_58 => k_is)
    (case l_58 => k_is)
    (case c_58 => k_is)
    (case k_58 => k_is)
    (case a_59 => k_is)
    (case l_59 => k_is)
    (case c_59 => k_is)
    (case k_59 => k_is)
    (case a_60 => k_is)
    (case l_60 => k_is)
    (case c_60 => k_is)
    (case k_60 => k_is)
    (case a_61 => k_is)
    (case l_61 => k_is)
    (case c_61 => k_is)
    (case k_61 => k_is)
    (case a_62 => k_is)
    (case l_62 => k_is)
    (case c_62 => k_is)
    (case k_62 => k_is)
    (case a_63 => k_is)
    (case l_63 => k_is)
    (case c_63 => k_is)
    (case k_63 => k_is)
    (case a_64 => k_is)
    (case l_64 => k_is)
    (case c_64 => k_is)
    (case k_64 => k_is)
    (case a_65 => k_is)
    (case l_65 => k_is)
    (case c_65 => k_is)
    (case k_65 => k_is)
    (case a_66 => k_is)
    (case l_66 => k_is)
    (case c_66 => k_is)
    (case k_66 => k_is)
    (case a_67 => k_is)
    (case l_67 => k_is)
    (case c_67 => k_is)
    (case k_67 => k_is)
    (case a_68 => k_is)
    (case l_68 => k_is)
    (case c_68 => k_is)
    (case k_68 => k_is)
    (case g_MOST_UNKNOWNS => k_is)
    (case g_MOST_AMOUNT => k_is)
    (case g_MOST_COLOUR => k_is)
    (case z_ValueError => k_is)
    (case z_abs => k_is)
    (case z_all => k_is)
    (case z_enumerate => k_is)
    (case z_int => k_is)
    (case z_len => k_is)
    (case z_list => k_is)
    (case z_max => k_is)
    (case z_min => k_is)
    (case z_range => k_is)
    (case z_repr => k_is)
    (case z_set => k_is)
    (case z_sorted => k_is)
    (case z_str => k_is)
    (case z_sum => k_is)
    (case z_tuple => k_is)
    (case z_type => k_is)
    (case z_zip => k_is)
    (case ub_g => k_is)
    (case ub_l => k_is)
    (case ub_1 => k_is)
    (case ub_2 => k_is)
    (case ub_3 => k_is)

