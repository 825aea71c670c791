import PyProof.Rows.All
import Wide.All
import OpenK.AllK
import Wide.FinOn
import HandS.ForMost
import HandS.More
import HandS.IsInst
import HandS.Evl
import HandS.TupAny
import PyProof.ReprRoads
import HandS.ExcValue
import HandS.ExcInit
import KE.KExcIs
import HandS.Strs
import HandS.SetFor
import HandS.SortInts
import HandS.Dict
import HandS.Zip
import HandS.Comp
import HandS.Star
import KE.LtData
import HandS.Conv
import HandS.Exc
import HandS.ExcOwn
import HandS.ExcIs
import HandS.TryOnly
import HandS.Deep
import HandS.Wide
import PyProof.Rows.RuleB_pow
import HandS.ExcField
import PyProof.StrOps2
import PySem.Challenge.RW_unknowncorners_k05_errors_made
set_option Elab.async false
set_option linter.all false
set_option maxRecDepth 100000
set_option maxHeartbeats 4000000
namespace U
open PySem L2 Evl

/-! ### data -/
inductive Dt where
  | non | bl (b : Bool) | int (i : Int) | str (x : Str) | lst (xs : List Dt) | tup (xs : List Dt) | exc (C : Addr)
/-- an error that is held as a value -/
def HasE (H : Hp) (a C : Addr) : Prop := H a = some (ExO (.ref C) a) ∨ ∃ (dx : Addr) (fs : List (Str × V)), H a = some (exo a C (some dx)) ∧ H dx = some (exd dx fs)
theorem HasE.mono {H H' : Hp} {a C : Addr} (e : Ex H H') : HasE H a C → HasE H' a C
  | .inl h => .inl (e _ _ h)
  | .inr ⟨dx, fs, h, k⟩ => .inr ⟨dx, fs, e _ _ h, e _ _ k⟩
mutual
inductive R (H : Hp) : V → Dt → Prop
  | non : R H .non .non
  | bl (b : Bool) : R H (.bl b) (.bl b)
  | int (i : Int) : R H (.int i) (.int i)
  | str (x : Str) : R H (.str x) (.str x)
  | lst {a : Addr} {xs : List V} {ds : List Dt} : H a = some (.lst xs) → RA H xs ds → R H (.ref a) (.lst ds)
  | tup {a : Addr} {xs : List V} {ds : List Dt} : H a = some (.tup xs) → RA H xs ds → R H (.ref a) (.tup ds)
  | exc {a C : Addr} : HasE H a C → R H (.ref a) (.exc C)
inductive RA (H : Hp) : List V → List Dt → Prop
  | nil : RA H [] []
  | cons {v : V} {vs : List V} {d : Dt} {ds : List Dt} : R H v d → RA H vs ds → RA H (v :: vs) (d :: ds)
end
section
variable {H H' : Hp}
mutual
theorem R.mono (e : Ex H H') : ∀ {v : V} {d : Dt}, R H v d → R H' v d
  | _, _, .non => .non
  | _, _, .bl b => .bl b
  | _, _, .int i => .int i
  | _, _, .str x => .str x
  | _, _, .lst h k => .lst (e _ _ h) (RA.mono e k)
  | _, _, .tup h k => .tup (e _ _ h) (RA.mono e k)
  | _, _, .exc h => .exc (h.mono e)
theorem RA.mono (e : Ex H H') : ∀ {v : List V} {d : List Dt}, RA H v d → RA H' v d
  | _, _, .nil => .nil
  | _, _, .cons a b => .cons (R.mono e a) (RA.mono e b)
end
theorem R.lst_inv {v : V} {ds : List Dt} (h : R H v (.lst ds)) : ∃ a xs, v = .ref a ∧ H a = some (.lst xs) ∧ RA H xs ds := by
  cases h with | lst a b => exact ⟨_, _, rfl, a, b⟩
theorem R.tup_inv {v : V} {ds : List Dt} (h : R H v (.tup ds)) : ∃ a xs, v = .ref a ∧ H a = some (.tup xs) ∧ RA H xs ds := by
  cases h with | tup a b => exact ⟨_, _, rfl, a, b⟩
theorem R.int_inv {v : V} {i : Int} (h : R H v (.int i)) : v = .int i := by cases h; rfl
theorem R.bl_inv {v : V} {i : Bool} (h : R H v (.bl i)) : v = .bl i := by cases h; rfl
theorem R.str_inv {v : V} {i : Str} (h : R H v (.str i)) : v = .str i := by cases h; rfl
theorem R.non_inv {v : V} (h : R H v .non) : v = .non := by cases h; rfl
theorem RA.len : ∀ {vs : List V} {ds : List Dt}, RA H vs ds → vs.length = ds.length
  | _, _, .nil => rfl
  | _, _, .cons _ k => by rw [List.length_cons, List.length_cons, RA.len k]
theorem RA.get : ∀ {vs : List V} {ds : List Dt} {i : Nat} {d : Dt}, RA H vs ds → ds[i]? = some d → ∃ v, vs[i]? = some v ∧ R H v d
  | _, _, _, _, .nil, e => by simp at e
  | _, _, 0, d, .cons r _, e => by simp at e; subst e; exact ⟨_, rfl, r⟩
  | _, _, i + 1, d, .cons _ t, e => by
    obtain ⟨u, h1, h2⟩ := RA.get (i := i) (d := d) t (by simpa using e)
    exact ⟨u, by simpa using h1, h2⟩
theorem RA.getV : ∀ {vs : List V} {ds : List Dt} {i : Nat} {v : V}, RA H vs ds → vs[i]? = some v → ∃ d, ds[i]? = some d ∧ R H v d
  | _, _, _, _, .nil, e => by simp at e
  | _, _, 0, d, .cons r _, e => by simp at e; subst e; exact ⟨_, rfl, r⟩
  | _, _, i + 1, d, .cons _ t, e => by
    obtain ⟨u, h1, h2⟩ := RA.getV (i := i) (v := d) t (by simpa using e)
    exact ⟨u, by simpa using h1, h2⟩
theorem RA.append : ∀ {vs ws : List V} {ds es : List Dt}, RA H vs ds → RA H ws es → RA H (vs ++ ws) (ds ++ es)
  | _, _, _, _, .nil, k => k
  | _, _, _, _, .cons a b, k => .cons a (RA.append b k)
theorem RA.one {v : V} {d : Dt} (h : R H v d) : RA H [v] [d] := .cons h .nil
theorem RA.ints : ∀ (ns : List Int), RA H (ns.map V.int) (ns.map Dt.int)
  | [] => .nil
  | n :: ns => .cons (.int n) (RA.ints ns)
theorem RA.ints_inv : ∀ {ns : List Int} {vs : List V}, RA H vs (ns.map Dt.int) → vs = ns.map V.int
  | [], _, .nil => rfl
  | n :: ns, _, .cons a b => by rw [R.int_inv a, RA.ints_inv b]; rfl
theorem RA.bls_inv {α : Type} {p : α → Bool} : ∀ {ns : List α} {vs : List V}, RA H vs (ns.map fun a => Dt.bl (p a)) → vs = (ns.map p).map V.bl
  | [], _, .nil => rfl
  | n :: ns, _, .cons a b => by rw [R.bl_inv a, RA.bls_inv b]; rfl
theorem RA.intsf_inv {α : Type} {p : α → Int} : ∀ {ns : List α} {vs : List V}, RA H vs (ns.map fun a => Dt.int (p a)) → vs = (ns.map p).map V.int
  | [], _, .nil => rfl
  | n :: ns, _, .cons a b => by rw [R.int_inv a, RA.intsf_inv b]; rfl
end

/-! ### data that can be shown -/
mutual
def Dt.py : Dt → PyData
  | .non => .none
  | .bl b => .bool b
  | .int i => .int i
  | .str x => .str x
  | .lst xs => .list (pyAll xs)
  | .tup xs => .tuple (pyAll xs)
  | .exc _ => .dict []
def pyAll : List Dt → List PyData
  | [] => []
  | x :: xs => Dt.py x :: pyAll xs
end
mutual
/-- no errors in it -/
def Dt.cln : Dt → Bool
  | .exc _ => false
  | .lst xs | .tup xs => clnAll xs
  | _ => true
def clnAll : List Dt → Bool
  | [] => true
  | x :: xs => Dt.cln x && clnAll xs
end
section
variable {K : PySem.W.Frag} {H : Hp}
mutual
theorem R.dp : ∀ {v : V} {d : Dt}, R H v d → d.cln = true → Dp K H v d.py
  | _, _, .non, _ => by rw [Dt.py]; exact .non
  | _, _, .bl b, _ => by rw [Dt.py]; exact .bl b
  | _, _, .int b, _ => by rw [Dt.py]; exact .int b
  | _, _, .str b, _ => by rw [Dt.py]; exact .str b
  | _, _, .lst h k, c => by rw [Dt.py]; exact .lst (SqL.of h) (RA.dp k (by rw [Dt.cln] at c; exact c))
  | _, _, .tup h k, c => by rw [Dt.py]; exact .tup (SqT.of h) (RA.dp k (by rw [Dt.cln] at c; exact c))
  | _, _, .exc _, c => by simp [Dt.cln] at c
theorem RA.dp : ∀ {v : List V} {d : List Dt}, RA H v d → clnAll d = true → DpAll K H v (pyAll d)
  | _, _, .nil, _ => by rw [pyAll]; exact .nil
  | _, _, .cons a b, c => by
    rw [clnAll, Bool.and_eq_true] at c
    rw [pyAll]; exact .cons (R.dp a c.1) (RA.dp b c.2)
end
end

mutual
def Dt.fit : Dt → Bool
  | .non | .bl _ => true
  | .str x => x.cps.toList.all fun c => decide (c < 16 ^ 8)
  | .int i => decide (i.natAbs < 10 ^ 60)
  | .lst xs | .tup xs => fitAll xs
  | .exc _ => false
def fitAll : List Dt → Bool
  | [] => true
  | x :: xs => Dt.fit x && fitAll xs
end
mutual
def Dt.wt : Dt → Nat
  | .non | .bl _ | .int _ | .exc _ => 1
  | .str x => x.length + 1
  | .lst xs | .tup xs => wtAll xs + 1
def wtAll : List Dt → Nat
  | [] => 0
  | x :: xs => Dt.wt x + wtAll xs
end
mutual
def Dt.dep : Dt → Nat
  | .non | .bl _ | .int _ | .str _ => 0
  | .exc _ => (PyData.dict []).depth
  | .lst xs | .tup xs => depAll xs + 1
def depAll : List Dt → Nat
  | [] => 0
  | x :: xs => max (Dt.dep x) (depAll xs)
end
theorem strip_int {i : Int} (h : i.natAbs < 10 ^ 60) : (PyData.shown (.int i)).length ≤ 61 := by
  have h2 := PySem.int_text_length_le10 (a := i) (k := 60) (by decide) h
  rw [PyData.shown]
  have e : ((toString i : Str)).length = (toString i : String).length := by
    exact PySem.ofString_length _
  omega
theorem log_60 {i : Int} (h : i.natAbs < 10 ^ 60) : i.natAbs.log2 < 1920 := by
  by_cases h0 : i.natAbs = 0
  · rw [h0]; decide
  · exact (Nat.log2_lt h0).mpr (Nat.lt_trans h (by decide))
mutual
theorem shown_sz : ∀ d : Dt, d.fit = true → d.py.shown.length ≤ 74 * d.wt - 2
  | .non, _ => by decide +kernel
  | .bl b, _ => by cases b <;> decide +kernel
  | .int i, h => by
    have := strip_int (i := i) (by simpa [Dt.fit] using h)
    rw [Dt.py, Dt.wt]; omega
  | .str x, h => by
    have h1 : ∀ c ∈ x.cps.toList, c < 16 ^ 8 := fun c hc => of_decide_eq_true (List.all_eq_true.mp (by rw [Dt.fit] at h; exact h) c hc)
    have h2 := StrLaws.reprText_len x h1
    rw [Dt.py, Dt.wt, PyData.shown]; omega
  | .lst xs, h => by
    have h1 := shownAll_sz xs (by simpa [Dt.fit] using h)
    have h2 := listText_len_le (PyData.shownAll (pyAll xs))
    rw [Dt.py, Dt.wt, PyData.shown]
    omega
  | .tup xs, h => by
    have h1 := shownAll_sz xs (by simpa [Dt.fit] using h)
    have h2 := tupleText_len_le (PyData.shownAll (pyAll xs))
    rw [Dt.py, Dt.wt, PyData.shown]
    omega
  | .exc _, h => by simp [Dt.fit] at h
theorem shownAll_sz : ∀ xs : List Dt, fitAll xs = true → ((PyData.shownAll (pyAll xs)).map (·.length)).sum + 2 * (PyData.shownAll (pyAll xs)).length ≤ 74 * wtAll xs
  | [], _ => by simp [pyAll, PyData.shownAll]
  | x :: xs, h => by
    have h' : x.fit = true ∧ fitAll xs = true := by simpa [fitAll] using h
    have h1 := shown_sz x h'.1
    have h2 := shownAll_sz xs h'.2
    rw [pyAll, PyData.shownAll, wtAll, List.map_cons, List.sum_cons, List.length_cons]
    have h3 : 1 ≤ x.wt := by cases x <;> simp [Dt.wt]
    omega
end
mutual
theorem showable_fit : ∀ d : Dt, d.fit = true → d.py.showable = true
  | .non, _ => by rw [Dt.py, PyData.showable]
  | .bl b, _ => by rw [Dt.py, PyData.showable]
  | .int i, h => by
    rw [Dt.py, PyData.showable]
    exact decide_eq_true (log_60 (of_decide_eq_true (by rw [Dt.fit] at h; exact h)))
  | .str x, h => by rw [Dt.py, PyData.showable]
  | .lst xs, h => by rw [Dt.py, PyData.showable]; exact showableAll_fit xs (by rw [Dt.fit] at h; exact h)
  | .tup xs, h => by rw [Dt.py, PyData.showable]; exact showableAll_fit xs (by rw [Dt.fit] at h; exact h)
  | .exc _, h => by simp [Dt.fit] at h
theorem showableAll_fit : ∀ xs : List Dt, fitAll xs = true → PyData.showableAll (pyAll xs) = true
  | [], _ => by rw [pyAll, PyData.showableAll]
  | x :: xs, h => by
    have h' : x.fit = true ∧ fitAll xs = true := by simpa [fitAll] using h
    rw [pyAll, PyData.showableAll, showable_fit x h'.1, showableAll_fit xs h'.2]; rfl
end
mutual
theorem noDict_py : ∀ d : Dt, d.cln = true → d.py.hasDict = false
  | .non, _ => by rw [Dt.py, PyData.hasDict]
  | .bl b, _ => by rw [Dt.py, PyData.hasDict]
  | .int i, _ => by rw [Dt.py, PyData.hasDict]
  | .str x, _ => by rw [Dt.py, PyData.hasDict]
  | .lst xs, c => by rw [Dt.py, PyData.hasDict]; exact noDict_all xs (by rw [Dt.cln] at c; exact c)
  | .tup xs, c => by rw [Dt.py, PyData.hasDict]; exact noDict_all xs (by rw [Dt.cln] at c; exact c)
  | .exc _, c => by simp [Dt.cln] at c
theorem noDict_all : ∀ xs : List Dt, clnAll xs = true → PyData.hasDictAll (pyAll xs) = false
  | [], _ => by rw [pyAll, PyData.hasDictAll]
  | x :: xs, c => by
    rw [clnAll, Bool.and_eq_true] at c
    rw [pyAll, PyData.hasDictAll, noDict_py x c.1, noDict_all xs c.2]; rfl
end
mutual
theorem fit_cln : ∀ d : Dt, d.fit = true → d.cln = true
  | .non, _ => by rw [Dt.cln] <;> simp
  | .bl _, _ => by rw [Dt.cln] <;> simp
  | .int _, _ => by rw [Dt.cln] <;> simp
  | .str _, _ => by rw [Dt.cln] <;> simp
  | .lst xs, h => by rw [Dt.cln]; exact fitAll_cln xs (by rw [Dt.fit] at h; exact h)
  | .tup xs, h => by rw [Dt.cln]; exact fitAll_cln xs (by rw [Dt.fit] at h; exact h)
  | .exc _, h => by simp [Dt.fit] at h
theorem fitAll_cln : ∀ xs : List Dt, fitAll xs = true → clnAll xs = true
  | [], _ => by rw [clnAll]
  | x :: xs, h => by
    rw [fitAll, Bool.and_eq_true] at h
    rw [clnAll, fit_cln x h.1, fitAll_cln xs h.2]; rfl
end
mutual
theorem lay_cln : ∀ d : Dt, d.py.canLay0 = true → d.cln = true
  | .non, _ => by rw [Dt.cln] <;> simp
  | .bl _, _ => by rw [Dt.cln] <;> simp
  | .int _, _ => by rw [Dt.cln] <;> simp
  | .str _, _ => by rw [Dt.cln] <;> simp
  | .lst xs, h => by rw [Dt.cln]; exact layAll_cln xs (by rw [Dt.py, PyData.canLay0] at h; exact h)
  | .tup xs, h => by rw [Dt.cln]; exact layAll_cln xs (by rw [Dt.py, PyData.canLay0] at h; exact h)
  | .exc _, h => by rw [Dt.py, PyData.canLay0] at h; cases h
theorem layAll_cln : ∀ xs : List Dt, PyData.canLayAll0 (pyAll xs) = true → clnAll xs = true
  | [], _ => by rw [clnAll]
  | x :: xs, h => by
    rw [pyAll, PyData.canLayAll0, Bool.and_eq_true] at h
    rw [clnAll, lay_cln x h.1, layAll_cln xs h.2]; rfl
end
theorem shaped_cln {d : Dt} (h : SeqAt.shaped d.py = true) : d.cln = true := by
  unfold SeqAt.shaped at h
  rw [Bool.and_eq_true] at h
  exact lay_cln d h.1
mutual
theorem dep_py : ∀ d : Dt, d.py.depth = d.dep
  | .non => by simp only [Dt.py, PyData.depth, Dt.dep]
  | .bl b => by simp only [Dt.py, PyData.depth, Dt.dep]
  | .int i => by simp only [Dt.py, PyData.depth, Dt.dep]
  | .str x => by simp only [Dt.py, PyData.depth, Dt.dep]
  | .exc _ => by rw [Dt.py, Dt.dep]
  | .lst xs => by simp only [Dt.py, PyData.depth, Dt.dep, dep_all xs]
  | .tup xs => by simp only [Dt.py, PyData.depth, Dt.dep, dep_all xs]
theorem dep_all : ∀ xs : List Dt, PyData.depthAll (pyAll xs) = depAll xs
  | [] => by simp only [pyAll, PyData.depthAll, depAll]
  | x :: xs => by simp only [pyAll, PyData.depthAll, depAll, dep_py x, dep_all xs]
end
/-- what can be shown -/
structure Fit (d : Dt) : Prop where
  fit : d.fit = true
  wt : d.wt ≤ 200000
  dep : d.dep ≤ 60
def isSeq : Dt → Bool
  | .lst _ | .tup _ | .non => true
  | _ => false
/-- repr(x), x a list or a tuple or None -/
def rRepr (H : Hp) (xs : List V) (Q : VK) : Prop := ∃ x d, xs = [x] ∧ R H x d ∧ isSeq d = true ∧ Fit d ∧ Q (.str d.py.shown) H
theorem call_repr {X : Cx} (hg : X.A.guards = some []) (hu : X.A.units + 64 < cLine) : CallR X (.builtin "repr") (fun xs H Q => rRepr H xs Q) := by
  intro pins s σ H xs us Q I r h
  obtain ⟨x, d, rfl, rx, hq, f, q⟩ := h
  obtain ⟨u, rfl, rv⟩ := vals1 r
  obtain ⟨as, rd⟩ := Dp.reads I d.py x u (R.dp rx (fit_cln d f.fit)) rv
  by_cases hnn : d = .non
  · subst hnn
    have hx := rx.non_inv
    subst hx
    have hu0 : u = Value.none := rv
    subst hu0
    have es : (Dt.non).py.shown = ("None" : Str) := by rw [Dt.py, PyData.shown]
    rw [es] at q
    exact PySem.P.repr_of_none ⟨.str "None", H, I.tok _, ⟨_, rfl⟩, q⟩
  have hd : ∃ a, u = .ref a := by
    cases rx with
    | lst _ _ => exact ⟨_, rv⟩
    | tup _ _ => exact ⟨_, rv⟩
    | non => exact absurd rfl hnn
    | exc _ => exact ⟨_, rv⟩
    | bl _ => cases hq
    | int _ => cases hq
    | str _ => cases hq
  obtain ⟨a, rfl⟩ := hd
  have hs := shown_sz d f.fit
  have hw := f.wt
  have hdep := f.dep
  refine repr_of_reads' rd (showable_fit d f.fit) (PyData.noDict_hsm (noDict_py d (fit_cln d f.fit))) hg (by rw [dep_py]; omega) (fun _ _ e => e) (fun h' t tk hk => ?_) (by rw [sizeLine_eq]; omega)
  exact ⟨.str _, H, I.kept hk, ⟨_, rfl⟩, q⟩
end U

namespace U
open PySem PySem.Spec PyProof.Rows L2

section
variable {P : Program} {w : World} {K : PySem.W.Frag} {mg : Str → Option Value} {base : Heap} {CX : CXT}
/-- a def keeps its promise wherever no repr runs around it -/
structure FnG (P : Program) (w : World) (K : PySem.W.Frag) (mg : Str → Option Value) (base : Heap) (CX : CXT) (k : Nat) (f : Addr) (fd : FuncData) (ps : List Str) (sp : Sp) : Prop where
  long : ∀ as H Q E, sp as H Q E → as.length = ps.length
  goes : ∀ (Γ : Around), Γ.guards = some [] → Room k Γ → ∀ (below : List Env) (st : Shared) (H : Hp), Env0 P w K mg base Γ below st H →
    ∀ (given : Args) (us : List Value) (as : List V), BindsTo st fd given (ps.zip us) → Vals as us → ∀ (Q : VK) (E : XK), sp as H Q E →
      codeAny (model P w) Γ (.call (.ref f) given) (CR CX below P w H st Q E) st
theorem FnG.up {j k : Nat} {f : Addr} {fd : FuncData} {ps : List Str} {sp : Sp} (F : FnG P w K mg base CX j f fd ps sp) (h : j ≤ k) : FnG P w K mg base CX k f fd ps sp :=
  ⟨F.long, fun Γ g r => F.goes Γ g (r.mono h)⟩
theorem deep_guards {Γ : Around} {env : Env} (h : Γ.guards = some []) : (Γ.deeper env).guards = some [] := h

/-- a def by its body -/
theorem fnG_of {k : Nat} {f : Addr} {name qual : Str} {params : Arguments} {body : List Stmt} {scope : Scope} {v1 v2 v3 v4 cdv v5 v6 : Value} {o1 o2 : Option Addr}
    {slots : Array (Option Value)} {N ps : List Str} {sp : Sp}
    (there : K.lookup f = some ⟨v6, o2, .func (PySem.W.fnOf name qual params body scope v1 v2 v3 v4 o1 cdv v5), slots⟩) (code : PySem.W.codeIn K cdv qual = true) (S : FnScope N ps scope)
    (long : ∀ as H Q E, sp as H Q E → as.length = ps.length)
    (inside : ∀ (Γ : Around) (below : List Env) (st : Shared) (H : Hp) (as : List V) (Q : VK) (E : XK), Γ.guards = some [] →
      Room k (Γ.deeper (envOfC qual scope st.heap.objs.size f cdv)) → sp as H Q E →
      ∃ t, PSs (cxOf CX P w K mg base N qual scope f cdv Γ below st H E) body t ∧ t { nx := fun _ H' => Q .non H', rt := Q } (start N as) H) :
    FnG P w K mg base CX (k + 1) f (PySem.W.fnOf name qual params body scope v1 v2 v3 v4 o1 cdv v5) ps sp := by
  constructor
  · exact long
  intro Γ g room below st H e0 given us as hb hv Q E asked
  have many := long as H Q E asked
  have kin : K.In st.heap := e0.mod.kin.keeps (fun b o z => (e0.bs b o z).1)
  have free : st.heap.NoLimit := e0.mod.nolimit.keeps (fun b o z => (e0.bs b o z).1)
  have names : ∀ y ∈ ps.zip us, scope.names.lookup y.1 = some .local ∨
      (scope.names.lookup y.1 = some .cell ∧ ((cellsFrom (st.heap.objs.size + 1) scope.names []).lookup y.1).isSome = true) := by
    rintro ⟨n, u⟩ hy
    exact (S.par n (List.of_mem_zip hy).1).elim .inl fun z => .inr ⟨z, PySem.W.cellsFrom_some _ _ _ (.inl z)⟩
  apply codeAny_call_function room.depth (kin _ _ there) rfl S.co S.gen rfl (PySem.W.codeRec_of kin code) (hb _ _ _ _ _)
  apply wpAny_newFunctionEnv_cells S.kind names
  rintro env rfl s1 x
  refine ⟨free.keeps x.toInCall.keep, codeAny_func ?_⟩
  obtain ⟨t, derived, reads⟩ := inside Γ below st H as Q E g (room.deeper _) asked
  have I := inv_start (CX := CX) (P := P) (w := w) (K := K) (mg := mg) (base := base) (E := E) S room.hd e0 many hv x
  have back : ∀ {σ' : L2.St} {H' : Hp} {v : V} {u : Value} {s' : Shared}, Inv (cxOf CX P w K mg base N qual scope f cdv Γ below st H E) [] σ' H' s' →
      RelV v u → Q v H' → CE below P w H st Q u s' := by
    intro σ' H' v u s' J rv q
    exact ⟨v, H', J.os, J.bare, J.base, J.hok, rv, q⟩
  refine wpAny_mono (derived.run [] s1 (start N as) H _ I reads) (fun fl s' hs => ?_) (fun _ _ z => z)
  match fl, hs with
  | .next, ⟨_, _, J, q⟩ => exact back (v := V.non) (u := Value.none) J rfl q
  | .ret u, ⟨_, _, _, J, rv, q⟩ => exact back J rv q
  | .brk, ⟨_, _, _, q⟩ => exact q.elim
  | .cont, ⟨_, _, _, q⟩ => exact q.elim

/-! ### calls -/
section
variable {X : Cx} {k : Nat} {f : Addr} {fd : FuncData} {ps : List Str} {sp : Sp} {E : XK} {x : Str} {p pos : Pos} {e : Expr} {es : List Expr} {kws : List Keyword} {t tk : TA}
theorem gone {pins : List (Addr × Obj)} {σ : L2.St} {H : Hp} {s : Shared} {Q : VK} {given : Args} {us : List Value} {as : List V} (F : FnG X.prog X.w X.K X.mg X.base CX k f fd ps sp) (g : X.A.guards = some []) (room : Room k X.A)
    (pass : Passes CX X E) (I : Inv X pins σ H s) (hb : BindsTo s fd given (ps.zip us)) (hv : Vals as us) (asked : sp as H Q E) :
    codeAny (model X.prog X.w) X.A (.call (.ref f) given) (fun r s' => match r with | .ok (.ret u) => EP X pins σ Q u s' | .ok _ => False | .error z => X.xe z s') s := by
  refine codeAny_mono (F.goes X.A g room X.stack s H I.env0 given us as hb hv Q E asked) (fun r s' z => ?_)
  match r, z with
  | .error a, z => exact pass pins σ H s a s' I z
  | .ok (.ret u), z => exact I.after z
  | .ok .next, z => exact z.elim
  | .ok .brk, z => exact z.elim
  | .ok .cont, z => exact z.elim
/-- f(e, ..) -/
theorem pe_go (F : FnG X.prog X.w X.K X.mg X.base CX k f fd ps sp) (g : X.A.guards = some []) (room : Room k X.A) (glob : Gl X x) (at_ : X.mg x = some (.ref f)) (kept : PySem.W.keepIn X.K (.ref f) = true)
    (hb : Binds X.K fd ps []) (pass : Passes CX X E) (ha : PA X (e :: es) t) (nd : (x == ("__debug__" : Str)) = false := by decide)
    (he : starEach (e :: es) X.env = (false, eval e X.env) :: starEach es X.env := by rfl) (plain : (backTo pos (starEach es X.env)).any (·.1) = false := by rfl) :
    PE X (.Call (.Name x p) (e :: es) [] pos) (tCall sp [] E t) := by
  constructor
  intro pins s σ H Q I h
  apply wpAny_Call_Name_kw (ld_glob I glob at_ _ nd)
  refine PySem.W.callWith_K (h₀ := X.base) I.ok.mod.kin kept (thn (ha.run pos pins s σ H _ I h) ?_) he plain
  rintro us s1 ⟨as, H1, I1, rv, asked⟩
  rw [List.append_nil] at asked
  have many : us.length = ps.length := by rw [← rv.length]; exact F.long _ _ _ _ asked
  have bound := hb s1 us I1.kIn (by simpa using many)
  rw [List.append_nil] at bound
  exact ⟨I1.kIn, wpAny_call (gone F g room pass I1 bound rv asked)⟩
/-- f(e, .., k = v, ..) -/
theorem pe_goK {ks : List Str} {gg : List Value → List Value → List Value} {gV : List V → List V → List V} (F : FnG X.prog X.w X.K X.mg X.base CX k f fd ps sp) (g : X.A.guards = some []) (room : Room k X.A) (glob : Gl X x) (at_ : X.mg x = some (.ref f))
    (kept : PySem.W.keepIn X.K (.ref f) = true) (hb : KBinds X.K fd ps ks gg gV) (pass : Passes CX X E) (ha : PA X (e :: es) t) (hk : PK X kws tk) (all : (backToKw pos (keywordEach kws X.env)).all (·.1.isSome) = true := by rfl)
    (names : (backToKw pos (keywordEach kws X.env)).filterMap (·.1) = ks := by rfl) (nd : (x == ("__debug__" : Str)) = false := by decide) (he : starEach (e :: es) X.env = (false, eval e X.env) :: starEach es X.env := by rfl)
    (plain : ((backTo pos (starEach (e :: es) X.env)).any (·.1) || (backToKw pos (keywordEach kws X.env)).any (·.1.isNone)) = false := by rfl) :
    PE X (.Call (.Name x p) (e :: es) kws pos) (tCallK sp gV E t tk) := by
  constructor
  intro pins s σ H Q I h
  apply wpAny_Call_Name_kw (ld_glob I glob at_ _ nd)
  refine PySem.W.callWith_KW (h₀ := X.base) I.ok.mod.kin kept all (thn (ha.run pos pins s σ H _ I h) ?_) plain he
  rintro us s1 ⟨as, H1, I1, rv, q⟩
  refine thn (hk.run pos pins s1 σ H1 _ I1 q) ?_
  rintro ws s2 ⟨zs, H2, I2, rz, asked⟩
  rw [names]
  have both := hb.rel rv rz
  have many : (gg us ws).length = ps.length := by rw [← both.length]; exact F.long _ _ _ _ asked
  exact ⟨I2.kIn, wpAny_call (gone F g room pass I2 (hb.to s2 us ws I2.kIn many) both asked)⟩
/-- f(k = v, ..), no argument by position -/
theorem pe_goN {ks : List Str} {gg : List Value → List Value → List Value} {gV : List V → List V → List V} (F : FnG X.prog X.w X.K X.mg X.base CX k f fd ps sp) (g : X.A.guards = some []) (room : Room k X.A) (glob : Gl X x) (at_ : X.mg x = some (.ref f))
    (kept : PySem.W.keepIn X.K (.ref f) = true) (hb : KBinds X.K fd ps ks gg gV) (pass : Passes CX X E) (hk : PK X kws tk) (all : (backToKw pos (keywordEach kws X.env)).all (·.1.isSome) = true := by rfl)
    (names : (backToKw pos (keywordEach kws X.env)).filterMap (·.1) = ks := by rfl) (nd : (x == ("__debug__" : Str)) = false := by decide)
    (plain : ((backTo pos (starEach [] X.env)).any (·.1) || (backToKw pos (keywordEach kws X.env)).any (·.1.isNone)) = false := by rfl) :
    PE X (.Call (.Name x p) [] kws pos) (tCallK sp gV E tNil tk) := by
  constructor
  intro pins s σ H Q I h
  apply wpAny_Call_Name_kw (ld_glob I glob at_ _ nd)
  refine PySem.W.callWith_KW0 (h₀ := X.base) I.ok.mod.kin kept all (thn (hk.run pos pins s σ H _ I h) ?_) plain
  rintro ws s2 ⟨zs, H2, I2, rz, asked⟩
  rw [names]
  have both := hb.rel (vs := []) (us := []) .nil rz
  have many : (gg [] ws).length = ps.length := by rw [← both.length]; exact F.long _ _ _ _ asked
  exact ⟨I2.kIn, wpAny_call (gone F g room pass I2 (hb.to s2 [] ws I2.kIn many) both asked)⟩
end
end

/-! ### the end: the law's own call -/
section
variable {P : Program} {w : World} {K : PySem.W.Frag} {mg : Str → Option Value} {CX : CXT}
/-- the script alone is told, or nothing -/
def onlyAt (a : Addr) (u : Option HO) : Hp := fun b => if b = a then u else none
theorem onlyAt_same {a : Addr} {u : Option HO} : onlyAt a u a = u := if_pos rfl
theorem onlyAt_ne {a b : Addr} {u : Option HO} (h : b ≠ a) : onlyAt a u b = none := if_neg h

theorem law_goes {k : Nat} {fa a : Addr} {fd : FuncData} {x : Str} {sp : Sp} {st : Shared} {us : List Value} {ns : List Int} {mb : Str → Option Value} {u : Option HO}
    (kin : K.In st.heap) (glob : st.heap.Ns mainGlobals mg) (blt : st.heap.Ns builtinsNs mb) (boot : ∀ y : Str, y ≠ "__name__" → mb y = bootBuiltins y) (free : st.heap.NoLimit) (nogen : st.gens = #[])
    (list : st.heap.get? a = some { cls := .type "list", data := .seq us.toArray }) (nums : IntsAre us ns) (short : ns.length ≤ sizeLine) (room : Room k callerA)
    (told : u = none ∨ (u = some (.frz { cls := .type "list", data := .seq us.toArray } (.lst (ns.map V.int))) ∧ K.lookup a = none))
    (F : ∀ base : Heap, K.In base → base.Ns mainGlobals mg → FnG P w K mg base CX k fa fd [x] sp) (bind : ∀ (s : Shared) (y : Value), BindsTo s fd ⟨[y], []⟩ [(x, y)])
    (asked : sp [.ref a] (onlyAt a u) (fun v _ => v = .bl true) fun _ _ _ => False) (quiet : ∀ H e s', CX [] H st (fun _ _ _ => False) e s' → False) :
    codeAny (model P w) callerA (.call (.ref fa) ⟨[.ref a], []⟩) (fun r s' => r = .ok (.ret (.bool true)) ∧ OldK st.heap s'.heap ∧ s'.os = st.os ∧ AllBare s'.gens) st := by
  have vals := vals_ints nums
  have held : HOk P w (onlyAt a u) st.heap := by
    intro b o q
    by_cases hb : b = a
    · rw [hb, onlyAt_same] at q
      rcases told with z | ⟨z, _⟩
      · rw [z] at q; cases q
      · rw [z] at q
        cases q
        rw [hb]
        exact ⟨list, by rw [List.length_map]; exact short, us, _, vals, list⟩
    · rw [onlyAt_ne hb] at q; cases q
  have away : ∀ {b : Addr} {o : Obj}, st.heap.get? b = some o → (b = a → u = none) → (hidT st.heap (onlyAt a u)).get? b = some o := by
    intro b o e h
    refine hidT_get e ?_
    by_cases hb : b = a
    · rw [hb, onlyAt_same]; exact h hb
    · exact onlyAt_ne hb
  have spaces : ∀ {b : Addr} {m : Str → Option Value}, st.heap.Ns b m → (hidT st.heap (onlyAt a u)).Ns b m := by
    rintro b m ⟨o, es, ep, e, d, r⟩
    refine ⟨o, es, ep, away e (fun hb => ?_), d, r⟩
    rw [hb, list] at e
    cases e
    exact nomatch d
  have kin' : K.In (hidT st.heap (onlyAt a u)) := by
    intro b o e
    refine away (kin b o e) (fun hb => ?_)
    rcases told with z | ⟨_, z⟩
    · exact z
    · rw [hb, z] at e; cases e
  have around : Env0 P w K mg (hidT st.heap (onlyAt a u)) callerA [] st (onlyAt a u) := {
    frames := rfl
    mod := ⟨kin', spaces glob, ⟨mb, spaces blt, boot⟩, free.elim fun mc z => ⟨mc, spaces z.1, z.2⟩⟩
    bs := fun b o e => of_hidT e
    bsz := Nat.le_of_eq (hidT_size _ _)
    funs := trivial
    frf := fun b z => nomatch z
    hok := held
    bare := .of_eq nogen }
  have run := (F _ kin' (spaces glob)).goes callerA rfl room [] st _ around ⟨[.ref a], []⟩ [.ref a] [.ref a] (bind st (.ref a)) (.cons rfl .nil) _ _ asked
  refine codeAny_mono run (fun r s' z => ?_)
  match r, z with
  | .error e, z => exact (quiet _ e s' z).elim
  | .ok .next, z => exact z.elim
  | .ok .brk, z => exact z.elim
  | .ok .cont, z => exact z.elim
  | .ok (.ret y), ⟨v, H', os, bare, un, held', ry, q⟩ =>
    have q : v = .bl true := q
    rw [q] at ry
    have ry : y = Value.bool true := ry
    rw [ry]
    refine ⟨rfl, OldK.of_keep (fun b o e => ?_), os, bare⟩
    by_cases hb : b = a ∧ u ≠ none
    · rcases told with z | ⟨z, _⟩
      · exact absurd z hb.2
      · have f0 : onlyAt a u a = some (.frz { cls := .type "list", data := .seq us.toArray } (.lst (ns.map V.int))) := onlyAt_same.trans z
        have f1 := (held' a _ (un.frzs a _ _ f0)).1
        rw [hb.1] at e ⊢
        rw [list] at e
        cases e
        exact f1
    · refine un.keep b o e ?_ (fun z => nomatch z) (fun z => nomatch z)
      by_cases hb' : b = a
      · rw [hb', onlyAt_same]
        exact Classical.byContradiction fun z => hb ⟨hb', z⟩
      · exact onlyAt_ne hb'

/-- what the law is told of its script -/
def Scr (K : PySem.W.Frag) (a : Addr) (ns : List Int) (H : Hp) : Prop := SqL K H a (ns.map V.int) ∧ ∀ b o, H b = some o → b = a
theorem walkG {l : PySem.W.OpenLaw} {n k : Nat} {q : Program} {loose : List Str} {XP : (Str → Option Value) → Heap → Prop} {YP : World → Heap → Prop} {d : DefRec} {K : Params → PySem.W.Frag} {CX : World → CXT} {sp : World → Sp} {x : Str}
    (most : l.most = some n) (line : n ≤ sizeLine) (plain : d.params.defaults = []) (room : Room k callerA) (has : ∀ (w : World) (h : Heap), YP w h → (K w.params).In h)
    (F : ∀ (w : World) (mg : Str → Option Value) (fa : Addr) (h : Heap), (K w.params).In h → h.Ns mainGlobals mg → mg d.name = some (.ref fa) → ∃ fd : FuncData, (∀ (s : Shared) (u : Value), BindsTo s fd ⟨[u], []⟩ [(x, u)]) ∧
        ∀ base : Heap, (K w.params).In base → base.Ns mainGlobals mg → FnG l.prog w (K w.params) mg base (CX w) k fa fd [x] (sp w))
    (asked : ∀ (w : World) (H : Hp) (a : Addr) (ns : List Int), ns.length ≤ n → Scr (K w.params) a ns H → sp w [.ref a] H (fun v _ => v = .bl true) fun _ _ _ => False)
    (quiet : ∀ (w : World) (H : Hp) (s : Shared) (e : Value) (s' : Shared), CX w [] H s (fun _ _ _ => False) e s' → False) :
    PySem.W.WalkO q loose XP YP l.row.toRowW d [] (fun f vs => PySem.call f vs) := by
  apply Att.attach_call most plain
  intro w s₀ st mg mb fa o pm cd doc a us ns G Y ho hd hcd hmg list nums long nogen
  have kin := has w _ Y
  obtain ⟨fd, bind, ok⟩ := F w mg fa _ kin G.T.g hmg
  have short := Nat.le_trans long line
  cases e : (K w.params).lookup a with
  | none =>
    exact law_goes kin G.T.g G.T.b G.T.builtins G.T.nolimit nogen list nums short room (.inr ⟨rfl, e⟩) ok bind
      (asked w _ a ns long ⟨.inl (.inr ⟨_, onlyAt_same⟩), fun b o z => Classical.byContradiction fun h => by rw [onlyAt_ne h] at z; cases z⟩) (fun H e s' => quiet w H st e s')
  | some ob =>
    have same := kin a ob e
    rw [list] at same
    cases same
    refine law_goes kin G.T.g G.T.b G.T.builtins G.T.nolimit nogen list nums short room (.inl rfl) ok bind
      (asked w _ a ns long ⟨.inr ⟨_, us.toArray, _, e, rfl, rfl, rfl, ?_, ?_⟩, fun b o z => ?_⟩) (fun H e s' => quiet w H st e s')
    · rw [List.size_toArray, nums.length]; exact short
    · simpa using vals_ints nums
    · by_cases h : b = a
      · exact h
      · rw [onlyAt_ne h] at z; cases z
end
end U

namespace U
open PySem L2 Evl

/-- from (B, H) to (B', H'): B' is B and some that is new behind H -/
structure New (B H B' H' : Hp) : Prop where
  ext : Ex B B'
  sub : Ex B' H'
  heap : Ex H H'
  fresh : ∀ a, B a = none → H a ≠ none → B' a = none
section
variable {B H B1 H1 B2 H2 : Hp}
theorem New.refl (e : Ex B H) : New B H B H := ⟨Ex.refl _, e, Ex.refl _, fun _ h _ => h⟩
theorem New.trans (a : New B H B1 H1) (b : New B1 H1 B2 H2) : New B H B2 H2 :=
  ⟨a.ext.trans b.ext, b.sub, a.heap.trans b.heap, fun p h1 h2 => b.fresh p (a.fresh p h1 h2) fun h3 => by
    cases q : H p with
    | none => exact h2 q
    | some o => rw [a.heap p o q] at h3; cases h3⟩
theorem New.grow (e : Ex B H1) (h : Ex H H1) (e0 : Ex B H) : New B H B H1 := ⟨Ex.refl _, e, h, fun _ h _ => h⟩
/-- one new object -/
theorem New.one {p : Addr} {o : HO} (e : Ex B H) (h : H p = none) : New B H (upd B p o) (upd H p o) := by
  have hb : B p = none := fresh_back e h
  refine ⟨Ex.new hb, fun a u q => ?_, Ex.new h, fun a h1 h2 => ?_⟩
  · by_cases ha : a = p
    · subst ha; rw [upd_same] at q ⊢; exact q
    · rw [upd_ne ha] at q ⊢; exact e a u q
  · rw [upd_ne (fun z => by subst z; exact h2 h)]; exact h1
/-- what may be read in either -/
def join (B C : Hp) : Hp := fun a => match B a with | some o => some o | none => C a
theorem join_l : Ex B (join B B1) := fun a o h => by unfold join; rw [h]
theorem join_r (h1 : Ex B H) (h2 : Ex B1 H) : Ex B1 (join B B1) := fun a o h => by
  unfold join
  cases q : B a with
  | none => exact h
  | some u =>
    have x := h1 a u q
    rw [h2 a o h] at x
    exact x.symm
theorem join_sub (h1 : Ex B H) (h2 : Ex B1 H) : Ex (join B B1) H := fun a o h => by
  unfold join at h
  cases q : B a with
  | none => rw [q] at h; exact h2 a o h
  | some u => rw [q] at h; cases h; exact h1 a _ q
end

def EvR (te : TE) (σ : L2.St) (B : Hp) (d : Dt) : Prop := ∀ H1, Ex B H1 → ∀ Q : VK, (∀ v B2 H2, New B H1 B2 H2 → R B2 v d → Q v H2) → te σ H1 Q
def EvRA (ta : TA) (σ : L2.St) (B : Hp) (ds : List Dt) : Prop := ∀ H1, Ex B H1 → ∀ Q : List V → Hp → Prop, (∀ vs B2 H2, New B H1 B2 H2 → RA B2 vs ds → Q vs H2) → ta σ H1 Q
/-- a test -/
def EvC (tt : TT) (σ : L2.St) (B : Hp) (b : Bool) : Prop := ∀ H1, Ex B H1 → ∀ Q : Bool → Hp → Prop, (∀ H2, Ex H1 H2 → Q b H2) → tt σ H1 Q
/-- an operation on two, on one; a call on values -/
def RV (r : R2) (x y : Dt) (z : Dt) : Prop := ∀ B H1 v w, Ex B H1 → R B v x → R B w y → ∀ Q : VK, (∀ u B2 H2, New B H1 B2 H2 → R B2 u z → Q u H2) → r v w H1 Q
def RU (r : V → Hp → VK → Prop) (x : Dt) (z : Dt) : Prop := ∀ B H1 v, Ex B H1 → R B v x → ∀ Q : VK, (∀ u B2 H2, New B H1 B2 H2 → R B2 u z → Q u H2) → r v H1 Q
def RL (r : List V → Hp → VK → Prop) (xs : List Dt) (z : Dt) : Prop := ∀ B H1 vs, Ex B H1 → RA B vs xs → ∀ Q : VK, (∀ u B2 H2, New B H1 B2 H2 → R B2 u z → Q u H2) → r vs H1 Q

section
variable {K : PySem.W.Frag} {σ : L2.St} {B B' H : Hp} {ta tb te : TE} {t u : TT} {tl tr : TA} {x y z d e : Dt} {xs ds : List Dt} {r : R2} {a b : Bool} {i j : Int}
theorem EvR.mono (e : Ex B B') (h : EvR te σ B d) : EvR te σ B' d := fun H1 e1 Q q => h H1 (e.trans e1) Q fun v B2 H2 n rv =>
  q v (join B' B2) H2 ⟨join_l, join_sub (e1.trans n.heap) n.sub, n.heap, fun p h1 h2 => by
    unfold join
    rw [h1]
    exact n.fresh p (fresh_back e h1) h2⟩ (rv.mono (join_r (e1.trans n.heap) n.sub))
theorem EvRA.mono (e : Ex B B') (h : EvRA tl σ B ds) : EvRA tl σ B' ds := fun H1 e1 Q q => h H1 (e.trans e1) Q fun v B2 H2 n rv =>
  q v (join B' B2) H2 ⟨join_l, join_sub (e1.trans n.heap) n.sub, n.heap, fun p h1 h2 => by
    unfold join
    rw [h1]
    exact n.fresh p (fresh_back e h1) h2⟩ (rv.mono (join_r (e1.trans n.heap) n.sub))
theorem EvC.mono (e : Ex B B') (h : EvC t σ B b) : EvC t σ B' b := fun H1 e1 Q q => h H1 (e.trans e1) Q q
theorem EvR.is (h : EvR te σ B d) (q : d = e) : EvR te σ B e := q ▸ h
theorem EvC.is (h : EvC t σ B a) (q : a = b) : EvC t σ B b := q ▸ h

theorem ev_v {n : Nat} {v : V} (h : σ[n]? = some (some v)) (rv : R B v d) : EvR (tVar n) σ B d := fun H1 e Q q => ⟨v, h, q v B H1 (New.refl e) rv⟩
theorem ev_i : EvR (tC (.int i)) σ B (.int i) := fun H1 e Q q => q _ B H1 (New.refl e) (.int i)
theorem ev_b : EvR (tC (.bl a)) σ B (.bl a) := fun H1 e Q q => q _ B H1 (New.refl e) (.bl a)
theorem ev_s {s : Str} : EvR (tC (.str s)) σ B (.str s) := fun H1 e Q q => q _ B H1 (New.refl e) (.str s)
theorem ev_n : EvR (tC .non) σ B .non := fun H1 e Q q => q _ B H1 (New.refl e) .non
theorem ev_op (ha : EvR ta σ B x) (hb : EvR tb σ B y) (hr : RV r x y z) : EvR (tOp r ta tb) σ B z := fun H1 e Q q =>
  ha H1 e _ fun v B2 H2 n rv => (hb.mono n.ext) H2 n.sub _ fun w B3 H3 n2 rw => hr B3 H3 v w n2.sub (rv.mono n2.ext) rw Q fun c B4 H4 n3 rc => q c B4 H4 ((n.trans n2).trans n3) rc
theorem ev_un {f : V → Hp → VK → Prop} (ha : EvR ta σ B x) (hr : RU f x z) : EvR (tUn f ta) σ B z := fun H1 e Q q =>
  ha H1 e _ fun v B2 H2 n rv => hr B2 H2 v n.sub rv Q fun c B4 H4 n3 rc => q c B4 H4 (n.trans n3) rc
theorem ea_nil : EvRA tNil σ B [] := fun H1 e Q q => q [] B H1 (New.refl e) .nil
theorem ea_cons (h : EvR te σ B x) (hr : EvRA tr σ B xs) : EvRA (tCons te tr) σ B (x :: xs) := fun H1 e Q q =>
  h H1 e _ fun v B2 H2 n rv => (hr.mono n.ext) H2 n.sub _ fun vs B3 H3 n2 rvs => q (v :: vs) B3 H3 (n.trans n2) (.cons (rv.mono n2.ext) rvs)
theorem ev_cb {f : List V → Hp → VK → Prop} (h : EvRA tl σ B xs) (hr : RL f xs z) : EvR (tCB f tl) σ B z := fun H1 e Q q =>
  h H1 e _ fun vs B2 H2 n rv => hr B2 H2 vs n.sub rv Q fun c B4 H4 n3 rc => q c B4 H4 (n.trans n3) rc
theorem ev_tup (h : EvRA tl σ B ds) (hl : ds.length ≤ 100000) : EvR (tTup tl) σ B (.tup ds) := fun H1 e Q q =>
  h H1 e _ fun vs B2 H2 n rv => ⟨by rw [rv.len]; exact sz_of hl, fun p hp => q _ (upd B2 p (.tup vs)) _ (n.trans (New.one n.sub hp)) (.tup upd_same (rv.mono (Ex.new (fresh_back n.sub hp))))⟩
theorem ev_lst (h : EvRA tl σ B ds) (hl : ds.length ≤ 100000) : EvR (tLst tl) σ B (.lst ds) := fun H1 e Q q =>
  h H1 e _ fun vs B2 H2 n rv => ⟨by rw [rv.len]; exact sz_of hl, fun p hp => q _ (upd B2 p (.lst vs)) _ (n.trans (New.one n.sub hp)) (.lst upd_same (rv.mono (Ex.new (fresh_back n.sub hp))))⟩
/-- if without loss: the value is an if -/
theorem ev_if (h : EvC t σ B b) (h1 : b = true → EvR ta σ B x) (h2 : b = false → EvR tb σ B x) : EvR (tIf t ta tb) σ B x := fun H1 e Q q => h H1 e _ fun H2 e2 => by
  have g : ∀ (ty : TE), EvR ty σ B x → ty σ H2 Q := fun ty hy => hy H2 (e.trans e2) Q fun v B3 H3 n rv => q v B3 H3 ((New.grow (e.trans e2) e2 e).trans n) rv
  cases b with
  | true => exact g ta (h1 rfl)
  | false => exact g tb (h2 rfl)
theorem ev_ifI (h : EvC t σ B b) (h1 : EvR ta σ B (.int i)) (h2 : EvR tb σ B (.int j)) : EvR (tIf t ta tb) σ B (.int (if b = true then i else j)) :=
  ev_if h (fun e => h1.is (by rw [e]; rfl)) (fun e => h2.is (by rw [e]; rfl))
theorem ev_and (h1 : EvR ta σ B (.bl a)) (h2 : a = true → EvR tb σ B (.bl b)) : EvR (tAndV ta tb) σ B (.bl (a && b)) := fun H1 e Q q => h1 H1 e _ fun v B2 H2 n rv => by
  cases rv
  refine ⟨a, rfl, ?_⟩
  cases a with
  | true => exact ((h2 rfl).mono n.ext) H2 n.sub Q fun v B3 H3 n2 r2 => q v B3 H3 (n.trans n2) r2
  | false => exact q _ B2 H2 n (.bl false)
theorem ev_or (h1 : EvR ta σ B (.bl a)) (h2 : a = false → EvR tb σ B (.bl b)) : EvR (tOrV ta tb) σ B (.bl (a || b)) := fun H1 e Q q => h1 H1 e _ fun v B2 H2 n rv => by
  cases rv
  refine ⟨a, rfl, ?_⟩
  cases a with
  | false => exact ((h2 rfl).mono n.ext) H2 n.sub Q fun v B3 H3 n2 r2 => q v B3 H3 (n.trans n2) r2
  | true => exact q _ B2 H2 n (.bl true)
theorem ev_not (h1 : EvR ta σ B (.bl a)) : EvR (tNotV ta) σ B (.bl (!a)) := fun H1 e Q q => h1 H1 e _ fun v B2 H2 n rv => by
  cases rv
  exact ⟨a, rfl, q _ B2 H2 n (.bl _)⟩
/-- tests -/
theorem ec_t (h : EvR te σ B (.bl a)) : EvC (tTest te) σ B a := fun H1 e Q q => h H1 e _ fun v B2 H2 n rv => by
  cases rv
  exact ⟨a, rfl, q H2 n.heap⟩
theorem ec_v (h : EvR te σ B (.bl a)) : EvC (tB te) σ B a := fun H1 e Q q => h H1 e _ fun v B2 H2 n rv => by
  cases rv
  exact ⟨a, rfl, q H2 n.heap⟩
theorem ec_and (h1 : EvC t σ B a) (h2 : a = true → EvC u σ B b) : EvC (tAnd t u) σ B (a && b) := fun H1 e Q q => h1 H1 e _ fun H2 e2 => by
  cases a with
  | true => exact h2 rfl H2 (e.trans e2) Q fun H3 e3 => q H3 (e2.trans e3)
  | false => exact q H2 e2
theorem ec_or (h1 : EvC t σ B a) (h2 : a = false → EvC u σ B b) : EvC (tOr t u) σ B (a || b) := fun H1 e Q q => h1 H1 e _ fun H2 e2 => by
  cases a with
  | false => exact h2 rfl H2 (e.trans e2) Q fun H3 e3 => q H3 (e2.trans e3)
  | true => exact q H2 e2
theorem ec_not (h1 : EvC t σ B a) : EvC (tNot t) σ B (!a) := fun H1 e _ q => h1 H1 e _ fun H2 e2 => q H2 e2
theorem ec_yes : EvC tYes σ B true := fun H1 e _ q => q H1 (Ex.refl H1)

/-! ### operations -/
theorem rv_I0 {g : Int → Int → V} {g' : Int → Int → Dt} (h : ∀ B i j, R B (g i j) (g' i j)) : RV (rI0 g) (.int i) (.int j) (g' i j) := fun B H1 v w e r1 r2 Q q => by
  cases r1; cases r2
  exact ⟨i, j, rfl, rfl, q _ B H1 (New.refl e) (h B i j)⟩
theorem rv_I {C : Int → Int → Prop} {g : Int → Int → V} {g' : Int → Int → Dt} (h : ∀ B i j, R B (g i j) (g' i j)) (hc : C i j) : RV (rI C g) (.int i) (.int j) (g' i j) := fun B H1 v w e r1 r2 Q q => by
  cases r1; cases r2
  exact ⟨i, j, rfl, rfl, hc, q _ B H1 (New.refl e) (h B i j)⟩
theorem rv_add : RV (rI0 fun i j => .int (i + j)) (.int i) (.int j) (.int (i + j)) := rv_I0 (g' := fun i j => .int (i + j)) fun _ _ _ => .int _
theorem rv_sub : RV (rI0 fun i j => .int (i - j)) (.int i) (.int j) (.int (i - j)) := rv_I0 (g' := fun i j => .int (i - j)) fun _ _ _ => .int _
theorem rv_mul (h : CMul i j) : RV (rI CMul fun i j => .int (i * j)) (.int i) (.int j) (.int (i * j)) := rv_I (g' := fun i j => .int (i * j)) (fun _ _ _ => .int _) h
theorem rv_mod (h : 0 < j) : RV (rI (fun _ j => 0 < j) fun i j => .int (i % j)) (.int i) (.int j) (.int (i % j)) := rv_I (g' := fun i j => .int (i % j)) (fun _ _ _ => .int _) h
theorem rv_div (h : CDiv i j) : RV (rI CDiv fun i j => .int (i / j)) (.int i) (.int j) (.int (i / j)) := rv_I (g' := fun i j => .int (i / j)) (fun _ _ _ => .int _) h
theorem rv_pow (h : CPow i j) : RV (rI CPow fun i j => .int (i ^ j.toNat)) (.int i) (.int j) (.int (i ^ j.toNat)) := rv_I (g' := fun i j => .int (i ^ j.toNat)) (fun _ _ _ => .int _) h
theorem rv_shr (h : 0 ≤ j) : RV (rI (fun _ j => 0 ≤ j) fun i j => .int (i / 2 ^ j.toNat)) (.int i) (.int j) (.int (i / 2 ^ j.toNat)) := rv_I (g' := fun i j => .int (i / 2 ^ j.toNat)) (fun _ _ _ => .int _) h
theorem rv_lt : RV (rI0 fun i j => .bl (decide (i < j))) (.int i) (.int j) (.bl (decide (i < j))) := rv_I0 (g' := fun i j => .bl (decide (i < j))) fun _ _ _ => .bl _
theorem rv_le : RV (rI0 fun i j => .bl (decide (i ≤ j))) (.int i) (.int j) (.bl (decide (i ≤ j))) := rv_I0 (g' := fun i j => .bl (decide (i ≤ j))) fun _ _ _ => .bl _
theorem rv_gt : RV (rI0 fun i j => .bl (decide (j < i))) (.int i) (.int j) (.bl (decide (j < i))) := rv_I0 (g' := fun i j => .bl (decide (j < i))) fun _ _ _ => .bl _
theorem rv_ge : RV (rI0 fun i j => .bl (decide (j ≤ i))) (.int i) (.int j) (.bl (decide (j ≤ i))) := rv_I0 (g' := fun i j => .bl (decide (j ≤ i))) fun _ _ _ => .bl _
theorem ru_neg : RU (rU fun i => .int (-i)) (.int i) (.int (-i)) := fun B H1 v e r1 Q q => by
  cases r1
  exact ⟨i, rfl, q _ B H1 (New.refl e) (.int _)⟩
/-- == and != of plain values; of data -/
def rOr (r r' : R2) : R2 := fun x y H Q => r x y H Q ∨ r' x y H Q
theorem rv_inl {r r' : R2} (h : RV r x y z) : RV (rOr r r') x y z := fun B H1 v w e r1 r2 Q q => .inl (h B H1 v w e r1 r2 Q q)
theorem rv_inr {r r' : R2} (h : RV r' x y z) : RV (rOr r r') x y z := fun B H1 v w e r1 r2 Q q => .inr (h B H1 v w e r1 r2 Q q)
theorem rv_eqI : RV rEq (.int i) (.int j) (.bl (decide (i = j))) := fun B H1 v w e r1 r2 Q q => by
  cases r1; cases r2
  exact ⟨rfl, q _ B H1 (New.refl e) (by have : decide (V.int i = V.int j) = decide (i = j) := by simp
                                        rw [this]; exact .bl _)⟩
theorem rv_neI : RV rNe (.int i) (.int j) (.bl (!decide (i = j))) := fun B H1 v w e r1 r2 Q q => by
  cases r1; cases r2
  exact ⟨rfl, q _ B H1 (New.refl e) (by have : decide (V.int i = V.int j) = decide (i = j) := by simp
                                        rw [this]; exact .bl _)⟩
theorem rv_eqS {s s' : Str} : RV rEq (.str s) (.str s') (.bl (decide (s = s'))) := fun B H1 v w e r1 r2 Q q => by
  cases r1; cases r2
  exact ⟨rfl, q _ B H1 (New.refl e) (by have : decide (V.str s = V.str s') = decide (s = s') := by simp
                                        rw [this]; exact .bl _)⟩
theorem rv_neS {s s' : Str} : RV rNe (.str s) (.str s') (.bl (!decide (s = s'))) := fun B H1 v w e r1 r2 Q q => by
  cases r1; cases r2
  exact ⟨rfl, q _ B H1 (New.refl e) (by have : decide (V.str s = V.str s') = decide (s = s') := by simp
                                        rw [this]; exact .bl _)⟩
theorem rv_eqD (h1 : SeqAt.shaped x.py = true) (h2 : SeqAt.shaped y.py = true) : RV (rEqD K) x y (.bl (PyData.eqv x.py y.py)) := fun B H1 v w e r1 r2 Q q =>
  ⟨_, _, (r1.mono e).dp (shaped_cln h1), (r2.mono e).dp (shaped_cln h2), h1, h2, q _ B H1 (New.refl e) (.bl _)⟩
theorem rv_neD (h1 : SeqAt.shaped x.py = true) (h2 : SeqAt.shaped y.py = true) : RV (rNeD K) x y (.bl (!PyData.eqv x.py y.py)) := fun B H1 v w e r1 r2 Q q =>
  ⟨_, _, (r1.mono e).dp (shaped_cln h1), (r2.mono e).dp (shaped_cln h2), h1, h2, q _ B H1 (New.refl e) (.bl _)⟩
/-- a place of a list, of a tuple -/
theorem atI_RA {vs : List V} {ds : List Dt} (h : RA B vs ds) (ha : atI ds i = some d) : ∃ v, atI vs i = some v ∧ R B v d := by
  unfold atI at ha ⊢
  rw [h.len]
  cases q : ixN ds.length i with
  | none => rw [q] at ha; cases ha
  | some k =>
    rw [q] at ha
    exact h.get ha
theorem rv_ixL (ha : atI ds i = some d) : RV (rIx K) (.lst ds) (.int i) d := fun B H1 v w e r1 r2 Q q => by
  cases r2
  obtain ⟨p, vs, rfl, hp, ra⟩ := r1.lst_inv
  obtain ⟨v, hv, rv⟩ := atI_RA ra ha
  exact .inl ⟨p, vs, i, v, rfl, rfl, sq_of (e _ _ hp), hv, q v B H1 (New.refl e) rv⟩
theorem rv_ixT (ha : atI ds i = some d) : RV (rIx K) (.tup ds) (.int i) d := fun B H1 v w e r1 r2 Q q => by
  cases r2
  obtain ⟨p, vs, rfl, hp, ra⟩ := r1.tup_inv
  obtain ⟨v, hv, rv⟩ := atI_RA ra ha
  exact .inr (.inl ⟨p, vs, i, v, rfl, rfl, st_of (e _ _ hp), hv, q v B H1 (New.refl e) rv⟩)
/-- lists one behind the other -/
theorem rv_cat {es : List Dt} (h : ds.length + es.length ≤ 100000) : RV rCat (.lst ds) (.lst es) (.lst (ds ++ es)) := fun B H1 v w e r1 r2 Q q => by
  obtain ⟨p, vs, rfl, hp, ra⟩ := r1.lst_inv
  obtain ⟨p2, vs2, rfl, hp2, ra2⟩ := r2.lst_inv
  refine ⟨p, p2, vs, vs2, rfl, rfl, e _ _ hp, e _ _ hp2, by rw [ra.len, ra2.len]; exact sz_of h, fun p hp => ?_⟩
  exact q _ (upd B p (.lst (vs ++ vs2))) _ (New.one e hp) (.lst upd_same ((ra.append ra2).mono (Ex.new (fresh_back e hp))))

/-! ### calls of built-ins -/
theorem rl_lenL : RL (rLenS K) [.lst ds] (.int (ds.length : Int)) := fun B H1 vs e ra Q q => by
  cases ra with | cons r1 r2 =>
  cases r2
  obtain ⟨p, vs, rfl, hp, ra⟩ := r1.lst_inv
  exact ⟨p, vs, rfl, .inl (sq_of (e _ _ hp)), q _ B H1 (New.refl e) (by rw [ra.len]; exact .int _)⟩
theorem rl_lenT : RL (rLenS K) [.tup ds] (.int (ds.length : Int)) := fun B H1 vs e ra Q q => by
  cases ra with | cons r1 r2 =>
  cases r2
  obtain ⟨p, vs, rfl, hp, ra⟩ := r1.tup_inv
  exact ⟨p, vs, rfl, .inr (st_of (e _ _ hp)), q _ B H1 (New.refl e) (by rw [ra.len]; exact .int _)⟩
theorem rl_list : RL (rListS K) [.lst ds] (.lst ds) := fun B H1 vs e ra Q q => by
  cases ra with | cons r1 r2 =>
  cases r2
  obtain ⟨p, vs, rfl, hp, ra⟩ := r1.lst_inv
  exact ⟨p, vs, rfl, .inl (sq_of (e _ _ hp)), fun l hl => q _ (upd B l (.lst vs)) _ (New.one e hl) (.lst upd_same (ra.mono (Ex.new (fresh_back e hl))))⟩
theorem rl_listT : RL (rListS K) [.tup ds] (.lst ds) := fun B H1 vs e ra Q q => by
  cases ra with | cons r1 r2 =>
  cases r2
  obtain ⟨p, vs, rfl, hp, ra⟩ := r1.tup_inv
  exact ⟨p, vs, rfl, .inr (st_of (e _ _ hp)), fun l hl => q _ (upd B l (.lst vs)) _ (New.one e hl) (.lst upd_same (ra.mono (Ex.new (fresh_back e hl))))⟩
def rTupleS (K : PySem.W.Frag) : List V → Hp → VK → Prop := fun xs H Q => ∃ p ys, xs = [.ref p] ∧ ((SqL K H p ys ∧ ∀ l, H l = none → Q (.ref l) (upd H l (.tup ys))) ∨ (SqT K H p ys ∧ Q (.ref p) H))
theorem rl_tuple : RL (rTupleS K) [.lst ds] (.tup ds) := fun B H1 vs e ra Q q => by
  cases ra with | cons r1 r2 =>
  cases r2
  obtain ⟨p, vs, rfl, hp, ra⟩ := r1.lst_inv
  exact ⟨p, vs, rfl, .inl ⟨sq_of (e _ _ hp), fun l hl => q _ (upd B l (.tup vs)) _ (New.one e hl) (.tup upd_same (ra.mono (Ex.new (fresh_back e hl))))⟩⟩
def rAbs : List V → Hp → VK → Prop := fun xs H Q => ∃ i, xs = [.int i] ∧ Q (.int (if i < 0 then -i else i)) H
theorem rl_abs : RL rAbs [.int i] (.int (if i < 0 then -i else i)) := fun B H1 vs e ra Q q => by
  cases ra with | cons r1 r2 =>
  cases r1; cases r2
  exact ⟨i, rfl, q _ B H1 (New.refl e) (.int _)⟩
def rInt1 : List V → Hp → VK → Prop := fun xs H Q => (∃ i, xs = [.int i] ∧ Q (.int i) H) ∨ ∃ k, xs = [.bl k] ∧ Q (.int (if k then 1 else 0)) H
theorem rl_int : RL rInt1 [.int i] (.int i) := fun B H1 vs e ra Q q => by
  cases ra with | cons r1 r2 =>
  cases r1; cases r2
  exact .inl ⟨i, rfl, q _ B H1 (New.refl e) (.int _)⟩
def rMax2 : List V → Hp → VK → Prop := fun xs H Q => ∃ i j, xs = [.int i, .int j] ∧ Q (.int (if j > i then j else i)) H
def rMin2 : List V → Hp → VK → Prop := fun xs H Q => ∃ i j, xs = [.int i, .int j] ∧ Q (.int (if j < i then j else i)) H
theorem rl_max2 : RL rMax2 [.int i, .int j] (.int (if j > i then j else i)) := fun B H1 vs e ra Q q => by
  cases ra with | cons r1 r2 =>
  cases r2 with | cons r2 r3 =>
  cases r1; cases r2; cases r3
  exact ⟨i, j, rfl, q _ B H1 (New.refl e) (.int _)⟩
theorem rl_min2 : RL rMin2 [.int i, .int j] (.int (if j < i then j else i)) := fun B H1 vs e ra Q q => by
  cases ra with | cons r1 r2 =>
  cases r2 with | cons r2 r3 =>
  cases r1; cases r2; cases r3
  exact ⟨i, j, rfl, q _ B H1 (New.refl e) (.int _)⟩
theorem rl_repr (hq : isSeq d = true) (f : Fit d) : RL (fun xs H Q => rRepr H xs Q) [d] (.str d.py.shown) := fun B H1 vs e ra Q q => by
  cases ra with | cons r1 r2 =>
  cases r2
  exact ⟨_, d, rfl, r1.mono e, hq, f, q _ B H1 (New.refl e) (.str _)⟩
theorem rl_all {α : Type} {l : List α} {p : α → Bool} : RL (rAll K) [.lst (l.map fun a => Dt.bl (p a))] (.bl (l.all p)) := fun B H1 vs e ra Q q => by
  cases ra with | cons r1 r2 =>
  cases r2
  obtain ⟨a, vs, rfl, hp, ra⟩ := r1.lst_inv
  refine ⟨a, l.map p, rfl, sq_of (by rw [← ra.bls_inv]; exact e _ _ hp), ?_⟩
  have : (l.map p).all id = l.all p := by rw [List.all_map]; rfl
  rw [this]
  exact q _ B H1 (New.refl e) (.bl _)
/-- the least of ints (0 for none) -/
def minL : List Int → Int
  | [] => 0
  | x :: xs => xs.foldl (fun a b => if b < a then b else a) x
theorem minL_go : ∀ (xs : List Int) (a : Int), (xs.foldl (fun a b => if b < a then b else a) a ∈ a :: xs) ∧ ∀ y ∈ a :: xs, xs.foldl (fun a b => if b < a then b else a) a ≤ y
  | [], a => by simp
  | x :: xs, a => by
    rw [List.foldl_cons]
    obtain ⟨h1, h2⟩ := minL_go xs (if x < a then x else a)
    have hm : (if x < a then x else a) ≤ a ∧ (if x < a then x else a) ≤ x := by split <;> constructor <;> omega
    constructor
    · rcases List.mem_cons.mp h1 with e | e
      · rw [e]
        split
        · exact List.mem_cons_of_mem _ List.mem_cons_self
        · exact List.mem_cons_self
      · exact List.mem_cons_of_mem _ (List.mem_cons_of_mem _ e)
    · intro y hy
      have h3 := h2 _ List.mem_cons_self
      rcases List.mem_cons.mp hy with e | hy
      · rw [e]; omega
      · rcases List.mem_cons.mp hy with e | hy
        · rw [e]; omega
        · exact h2 y (List.mem_cons_of_mem _ hy)
theorem minL_mem {xs : List Int} (h : xs ≠ []) : minL xs ∈ xs := by
  cases xs with
  | nil => exact absurd rfl h
  | cons x xs => exact (minL_go xs x).1
theorem minL_le {xs : List Int} {y : Int} (h : y ∈ xs) : minL xs ≤ y := by
  cases xs with
  | nil => cases h
  | cons x xs => exact (minL_go xs x).2 y h
theorem minL_eq {xs : List Int} {m : Int} (h1 : m ∈ xs) (h2 : ∀ y ∈ xs, m ≤ y) : m = minL xs :=
  Int.le_antisymm (h2 _ (minL_mem (fun e => by rw [e] at h1; cases h1))) (minL_le h1)
theorem rl_min {α : Type} {l : List α} {g : α → Int} (h : l ≠ []) : RL (L2.rMin K) [.lst (l.map fun a => Dt.int (g a))] (.int (minL (l.map g))) := fun B H1 vs e ra Q q => by
  cases ra with | cons r1 r2 =>
  cases r2
  obtain ⟨a, vs, rfl, hp, ra⟩ := r1.lst_inv
  refine ⟨a, l.map g, rfl, sq_of (by rw [← ra.intsf_inv]; exact e _ _ hp), ?_, fun m h1 h2 => ?_⟩
  · rw [List.length_map]; exact List.length_pos_iff.mpr h
  · rw [minL_eq h1 h2]; exact q _ B H1 (New.refl e) (.int _)

/-! ### what kind a value is of -/
def Dt.kind : Dt → String
  | .non => "NoneType" | .bl _ => "bool" | .int _ => "int" | .str _ => "str" | .lst _ => "list" | .tup _ => "tuple" | .exc _ => ""
def Dt.isE : Dt → Bool
  | .exc _ => true
  | _ => false
theorem R.kind {v : V} (e : Ex B H) (h : R B v d) (ne : d.isE = false) : zTyV v H = some d.kind := by
  cases h with
  | lst h _ => simp only [zTyV, e _ _ h, Dt.kind]
  | tup h _ => simp only [zTyV, e _ _ h, Dt.kind]
  | exc _ => cases ne
  | _ => rfl
theorem R.tyx {v : V} (e : Ex B H) (h : R B v d) (ne : d.isE = false) : TyX K H v (.type d.kind) := by
  cases h with
  | non => exact .base .non
  | bl b => exact .base (.bl b)
  | int b => exact .base (.int b)
  | str b => exact .base (.str b)
  | lst h _ => exact .base (.lst (e _ _ h))
  | tup h _ => exact .base (.tup (e _ _ h))
  | exc _ => cases ne
/-- a held error is an instance -/
theorem inst_of {X : Cx} {pins : List (Addr × Obj)} {s : Shared} {σ : L2.St} {a C : Addr} (I : Inv X pins σ H s) (h : HasE H a C) : ∃ oe od, PySem.W.InstAt s.heap a oe C od := by
  rcases h with ha | ⟨dx, fs, ha, hd⟩
  · obtain ⟨⟨oe, vs, ho, hz, hd, _⟩, _, _⟩ := I.hok a _ ha
    refine ⟨oe, none, ?_⟩
    obtain ⟨oc, od, oda, osl⟩ := oe
    obtain ⟨h1, h2⟩ := hz
    dsimp only at h1 h2 hd
    subst h1 h2 hd
    exact ⟨ho, rfl, rfl, trivial⟩
  · obtain ⟨t1, ho⟩ := exo_at I.hok ha
    obtain ⟨mA, hns, _⟩ := exd_at I.hok hd
    obtain ⟨od, ho2, _⟩ := lookIn_ns hns
    exact ⟨_, some od, ho, rfl, rfl, ho2⟩
/-- type(x), x perhaps an error -/
def kTypX (x : V) (H : Hp) (Q : VK) : Prop := kTyp x H Q ∨ ∃ a C, x = .ref a ∧ HasE H a C ∧ Q (.ref C) H
theorem rl_typeX {X : Cx} (pins : List (Addr × Obj)) (s : Shared) (σ : L2.St) (H : Hp) (x : V) (v : Value) (Q : VK) (I : Inv X pins σ H s) (r : RelV x v) (h : kTypX x H Q) :
    wpAny (model X.prog X.w) X.A (call (.type "type") [v]) (EP X pins σ Q) X.xe s := by
  rcases h with h | ⟨a, C, rfl, ha, q⟩
  · exact rl_type pins s σ H x v Q I r h
  · cases (show v = Value.ref a from r)
    obtain ⟨oe, od, J⟩ := inst_of I ha
    exact PySem.W.kto_own J ⟨.ref C, H, I, rfl, q⟩
def tThenX (ta : TE) : TE := fun σ H Q => ta σ H fun x H1 => kTypX x H1 Q
theorem pe_typeX {X : Cx} {a : Expr} {p pos : Pos} {ta : TE} (hg : Gl X "type") (hm : X.mg "type" = none) (ha : PE X a ta) (na : starEach [a] X.env = (false, eval a X.env) :: starEach [] X.env := by rfl) :
    PE X (.Call (.Name "type" p) [a] [] pos) (tThenX ta) := pe_callTy (call_r1 rl_typeX) hg hm (by decide +kernel) (pa_cons ha pa_nil na) (he := na)
def rIsTy : R2 := fun x y H Q => (∃ m n, x = .ty m ∧ y = .ty n ∧ Q (.bl (decide (m = n))) H) ∨ ∃ C n, x = .ref C ∧ y = .ty n ∧ Q (.bl false) H
theorem op_isTX {X : Cx} : OpR X (compareOp .Is) rIsTy := by
  intro pins s σ H x y v u Q I rx ry h
  rcases h with h | ⟨C, n, rfl, rfl, q⟩
  · exact op_isTy pins s σ H x y v u Q I rx ry h
  · cases (show v = Value.ref C from rx)
    cases (show u = Value.type n from ry)
    exact wpAny_is_other rfl (fun z => nomatch z) ⟨.bl false, H, I, rfl, q⟩
/-- type(x) is T -/
theorem ev_isTy {n : String} (h : EvR ta σ B d) (hn : n ≠ "" := by decide) : EvR (tOp rIsTy (tThenX ta) (tC (.ty n))) σ B (.bl (decide (d.kind = n))) := fun H1 e Q q =>
  h H1 e _ fun v B2 H2 nw rv => by
    by_cases ne : d.isE = false
    · exact .inl ⟨_, rv.kind nw.sub ne, .inl ⟨_, _, rfl, rfl, q _ B2 H2 nw (.bl _)⟩⟩
    · cases rv with
      | exc hE =>
        refine .inr ⟨_, _, rfl, hE.mono nw.sub, .inr ⟨_, _, rfl, rfl, ?_⟩⟩
        have e0 : ∀ C : Addr, decide ((Dt.exc C).kind = n) = false := fun C => decide_eq_false fun z => hn z.symm
        rw [e0] at q
        exact q _ B2 H2 nw (.bl _)
      | _ => exact absurd rfl ne
/-- isinstance(x, T) -/
theorem ev_isi {n : String} {r : Bool} (h : EvR ta σ B d) (hk : kitB d.kind n = some r) (ne : d.isE = false := by rfl) : EvR (tCB (rIsi K) (tCons ta (tCons (tC (.ty n)) tNil))) σ B (.bl r) := fun H1 e Q q =>
  h H1 e _ fun v B2 H2 nw rv => ⟨v, _, _, _, r, rfl, .ty n, rv.tyx nw.sub ne, kit_ty hk, q _ B2 H2 nw (.bl _)⟩
end
end U

namespace U
open PySem L2 Evl

section
variable {K : PySem.W.Frag} {σ : L2.St} {B B' H : Hp} {ta tb te : TE} {t u : TT} {tl tr tk : TA} {x y z d e : Dt} {xs ds es : List Dt} {r : R2} {a b : Bool} {i j : Nat} {D : Ends} {tu tw tz : TS} {g : TG}
/-- the heap alone has grown -/
structure Up (B H H1 : Hp) : Prop where
  old : Ex B H
  sub : Ex B H1
  heap : Ex H H1
theorem Up.new {B H H1 : Hp} (u : Up B H H1) : New B H B H1 := New.grow u.sub u.heap u.old
/-! ### statements -/
theorem s_asg (e : Ex B H) (h : EvR te σ B d) (k : ∀ v B1 H1, New B H B1 H1 → R B1 v d → D.nx (σ.set i (some v)) H1) : tAsg te (gName i) D σ H := h H e _ k
theorem s_ret (e : Ex B H) (h : EvR te σ B d) (k : ∀ v B1 H1, New B H B1 H1 → R B1 v d → D.rt v H1) : tRet te D σ H := h H e _ k
theorem s_retE (e : Ex B H) (h : EvR te σ B x) (q : x = d) (k : ∀ v B1 H1, New B H B1 H1 → R B1 v d → D.rt v H1) : tRet te D σ H := h H e _ fun v B1 H1 n rv => k v B1 H1 n (q ▸ rv)
theorem s_drop (e : Ex B H) (h : EvR te σ B d) (k : ∀ H1, Up B H H1 → D.nx σ H1) : tDrop te D σ H := h H e _ fun v B1 H1 n _ => k H1 ⟨e, e.trans n.heap, n.heap⟩
theorem s_if (e : Ex B H) (h : EvC t σ B b) (h1 : b = true → ∀ H1, Up B H H1 → tu D σ H1) (h2 : b = false → ∀ H1, Up B H H1 → tw D σ H1) : tIfS t tu tw D σ H := h H e _ fun H2 e2 => by
  cases b with
  | true => exact h1 rfl H2 ⟨e, e.trans e2, e2⟩
  | false => exact h2 rfl H2 ⟨e, e.trans e2, e2⟩
theorem s_next (h : D.nx σ H) : tNext D σ H := h
theorem s_seq (h : tu { D with nx := tz D } σ H) : tSeq tu tz D σ H := h
/-- a, b = e -/
theorem s_asg2 (e : Ex B H) (h : EvR te σ B (.tup [x, y])) (k : ∀ v w B1 H1, New B H B1 H1 → R B1 v x → R B1 w y → D.nx ((σ.set i (some v)).set j (some w)) H1) :
    tAsg te (gTup K 2 (gCons (gName i) (gCons (gName j) gNil))) D σ H := h H e _ fun v B1 H1 n rv => by
  obtain ⟨p, vs, rfl, hp, ra⟩ := rv.tup_inv
  cases ra with | cons r1 ra =>
  cases ra with | cons r2 ra =>
  cases ra
  exact ⟨p, _, rfl, st_of (n.sub _ _ hp), rfl, _, _, rfl, _, _, rfl, rfl, k _ _ B1 H1 n r1 r2⟩
/-- a, b = e1, e2 -/
theorem s_par (e : Ex B H) (h : EvRA tl σ B [x, y]) (k : ∀ v w B1 H1, New B H B1 H1 → R B1 v x → R B1 w y → D.nx ((σ.set i (some v)).set j (some w)) H1) : tPar i j tl D σ H := h H e _ fun vs B1 H1 n ra => by
  cases ra with | cons r1 ra =>
  cases ra with | cons r2 ra =>
  cases ra
  exact ⟨_, _, rfl, k _ _ B1 H1 n r1 r2⟩
/-- x = [] -/
theorem s_new (e : Ex B H) (k : ∀ p H1, H p = none → B p = none → H1 = upd H p (.lst []) → Up B H H1 → D.nx (σ.set i (some (.ref p))) H1) : tAsg (tLst tNil) (gName i) D σ H :=
  ⟨Nat.zero_le _, fun p hp => k p _ hp (fresh_back e hp) rfl ⟨e, Ex.mut e (fresh_back e hp), Ex.new hp⟩⟩
/-- a list of one's own -/
structure Own (H0 B H : Hp) (p : Addr) (xs : List V) : Prop where
  h0 : H0 p = none
  b : B p = none
  h : H p = some (.lst xs)
theorem Own.step {H0 B H B1 H1 : Hp} {p : Addr} {xs : List V} (o : Own H0 B H p xs) (n : New B H B1 H1) : Own H0 B1 H1 p xs :=
  ⟨o.h0, n.fresh p o.b (by rw [o.h]; simp), n.heap _ _ o.h⟩
theorem Own.put {H0 B H : Hp} {p : Addr} {xs ys : List V} (o : Own H0 B H p xs) : Own H0 B (upd H p (.lst ys)) p ys := ⟨o.h0, o.b, upd_same⟩
theorem Own.other {H0 B H : Hp} {p q : Addr} {xs : List V} {u : HO} (o : Own H0 B H p xs) (h : p ≠ q) : Own H0 B (upd H q u) p xs := ⟨o.h0, o.b, by rw [upd_ne h]; exact o.h⟩
theorem New.put {B0 H0 B H : Hp} {p : Addr} {xs : List V} {u : HO} (n : New B0 H0 B H) (o : Own H0 B H p xs) : New B0 H0 B (upd H p u) :=
  ⟨n.ext, Ex.mut n.sub o.b, Ex.mut n.heap o.h0, n.fresh⟩
/-- it is handed on as data -/
theorem New.give {B0 H0 B H : Hp} {p : Addr} {xs : List V} (n : New B0 H0 B H) (o : Own H0 B H p xs) : New B0 H0 (upd B p (.lst xs)) H := by
  refine ⟨n.ext.trans (Ex.new o.b), fun q u h => ?_, n.heap, fun q h1 h2 => ?_⟩
  · by_cases hq : q = p
    · subst hq; rw [upd_same] at h; cases h; exact o.h
    · rw [upd_ne hq] at h; exact n.sub q u h
  · rw [upd_ne (fun z => by subst z; exact h2 o.h0)]; exact n.fresh q h1 h2
theorem Own.data {H0 B H : Hp} {p : Addr} {xs : List V} {ds : List Dt} (o : Own H0 B H p xs) (r : RA B xs ds) : R (upd B p (.lst xs)) (.ref p) (.lst ds) := .lst upd_same (r.mono (Ex.new o.b))
/-- p.append(e) -/
theorem s_app {H0 : Hp} {p : Addr} {vs : List V} {n : Nat} (e : Ex B H) (o : Own H0 B H p vs) (hv : σ[n]? = some (some (.ref p))) (h : EvR te σ B d) (hz : vs.length < 100000)
    (k : ∀ v B1 H1, New B H B1 H1 → Own H0 B1 H1 p vs → R B1 v d → D.nx σ (upd H1 p (.lst (vs ++ [v])))) : tDrop (tBM K "list" rAppend (tVar n) (tCons te tNil)) D σ H :=
  ⟨_, hv, .inl ⟨rfl, _, .inl (.inl o.h)⟩, h H e _ fun v B1 H1 nw rv => ⟨p, vs, v, rfl, rfl, (o.step nw).h, sz_lt hz, k v B1 H1 nw (o.step nw) rv⟩⟩

/-! ### loops -/
theorem s_forL (e : Ex B H) (h : EvR te σ B (.lst ds)) (Pv : Hp → Hp → Nat → L2.St → Hp → Prop) (h0 : ∀ B1 H1, New B H B1 H1 → Pv B1 H1 0 σ H1) (hx : ∀ B1 H1 i σ' H', Pv B1 H1 i σ' H' → Ex B1 H')
    (hs : ∀ B1 H1 i d v σ' H', New B H B1 H1 → ds[i]? = some d → R B1 v d → Pv B1 H1 i σ' H' → g v σ' H' fun σ2 H2 => tu { D with nx := Pv B1 H1 (i + 1), ct := Pv B1 H1 (i + 1), bk := D.nx } σ2 H2)
    (hd : ∀ B1 H1 σ' H', New B H B1 H1 → Pv B1 H1 ds.length σ' H' → D.nx σ' H') : tFor (iList K te) g tu D σ H := h H e _ fun v B1 H1 n rv => by
  obtain ⟨p, vs, rfl, hp, ra⟩ := rv.lst_inv
  refine ⟨p, rfl, ⟨vs, sq_of (n.sub _ _ hp)⟩, for_list (K := K) (a := p) (xs := vs) (Pv B1 H1) (h0 B1 H1 n) (fun i σ' H' _ q => sq_of (hx B1 H1 i σ' H' q _ _ hp)) (fun i v σ' H' hi q => ?_) (fun σ' H' q => hd B1 H1 σ' H' n (by rw [← ra.len]; exact q))⟩
  obtain ⟨d, hd', rd⟩ := ra.getV hi
  exact hs B1 H1 i d v σ' H' n hd' rd q
theorem s_forT (e : Ex B H) (h : EvR te σ B (.tup ds)) (Pv : Hp → Hp → Nat → L2.St → Hp → Prop) (h0 : ∀ B1 H1, New B H B1 H1 → Pv B1 H1 0 σ H1) (hx : ∀ B1 H1 i σ' H', Pv B1 H1 i σ' H' → Ex B1 H')
    (hs : ∀ B1 H1 i d v σ' H', New B H B1 H1 → ds[i]? = some d → R B1 v d → Pv B1 H1 i σ' H' → g v σ' H' fun σ2 H2 => tu { D with nx := Pv B1 H1 (i + 1), ct := Pv B1 H1 (i + 1), bk := D.nx } σ2 H2)
    (hd : ∀ B1 H1 σ' H', New B H B1 H1 → Pv B1 H1 ds.length σ' H' → D.nx σ' H') : tFor (iTup K te) g tu D σ H := h H e _ fun v B1 H1 n rv => by
  obtain ⟨p, vs, rfl, hp, ra⟩ := rv.tup_inv
  refine ⟨p, rfl, ⟨vs, st_of (n.sub _ _ hp)⟩, for_tup (K := K) (a := p) (xs := vs) (Pv B1 H1) (h0 B1 H1 n) (fun i σ' H' _ q => st_of (hx B1 H1 i σ' H' q _ _ hp)) (fun i v σ' H' hi q => ?_) (fun σ' H' q => hd B1 H1 σ' H' n (by rw [← ra.len]; exact q))⟩
  obtain ⟨d, hd', rd⟩ := ra.getV hi
  exact hs B1 H1 i d v σ' H' n hd' rd q
/-- for j in range(n) -/
theorem s_forR {n : Int} (e : Ex B H) (h : EvRA tl σ B [.int n]) (hn : 0 ≤ n ∧ n ≤ 1000000) (Pv : Nat → L2.St → Hp → Prop) (h0 : ∀ H1, Up B H H1 → Pv 0 σ H1)
    (hs : ∀ (i : Nat) σ' H', (i : Int) < n → Pv i σ' H' → tu { D with nx := Pv (i + 1), ct := Pv (i + 1), bk := D.nx } (σ'.set j (some (.int (i : Int)))) H') (hd : ∀ σ' H', Pv n.toNat σ' H' → D.nx σ' H') :
    tFor (iRng1 tl) (gName j) tu D σ H := h H e _ fun vs B1 H1 nw ra => by
  cases ra with | cons r1 ra =>
  cases r1; cases ra
  refine ⟨n, rfl, by omega, by omega, for_range (lo := 0) (n := n.toNat) Pv (h0 H1 ⟨e, e.trans nw.heap, nw.heap⟩) (fun i σ' H' hi q => ?_) hd⟩
  have e0 : (0 : Int) + (i : Int) = (i : Int) := Int.zero_add _
  rw [e0]
  exact hs i σ' H' (by omega) q

/-! ### comprehensions -/
def LcI (B1 H1 : Hp) (p : Addr) (out : Nat → List Dt) (i : Nat) (H' : Hp) : Prop := ∃ B' acc, New B1 H1 B' H' ∧ Own H1 B' H' p acc ∧ RA B' acc (out i)
theorem lcI_start {B1 H1 : Hp} {p : Addr} {out : Nat → List Dt} (e : Ex B1 H1) (hp : H1 p = none) (h0 : out 0 = []) : LcI B1 H1 p out 0 (upd H1 p (.lst [])) :=
  ⟨B1, [], ⟨Ex.refl _, Ex.mut e (fresh_back e hp), Ex.new hp, fun _ h _ => h⟩, ⟨hp, fresh_back e hp, upd_same⟩, by rw [h0]; exact .nil⟩
theorem lcI_turn {B1 H1 H' : Hp} {p : Addr} {out : Nat → List Dt} {i : Nat} {c : Bool} {σ2 : L2.St} (q : LcI B1 H1 p out i H') (hz : (out i).length < 100000) (ht : EvC t σ2 B1 c) (he : c = true → EvR te σ2 B1 d)
    (hs : out (i + 1) = if c = true then out i ++ [d] else out i) :
    t σ2 H' fun b H3 => if b = true then te σ2 H3 fun y H4 => ∃ acc, H4 p = some (.lst acc) ∧ acc.length < sizeLine ∧ LcI B1 H1 p out (i + 1) (upd H4 p (.lst (acc ++ [y]))) else LcI B1 H1 p out (i + 1) H3 := by
  obtain ⟨B', acc, n, o, ra⟩ := q
  refine ht H' (n.ext.trans n.sub) _ fun H3 e3 => ?_
  have n3 : New B' H' B' H3 := New.grow (n.sub.trans e3) e3 n.sub
  cases c with
  | true =>
    show te σ2 H3 _
    refine ((he rfl).mono n.ext) H3 n3.sub _ fun v B4 H4 n4 rv => ?_
    have o4 := (o.step n3).step n4
    refine ⟨acc, o4.h, sz_lt (by rw [ra.len]; exact hz), B4, acc ++ [v], (((n.trans n3).trans n4).put o4), o4.put, ?_⟩
    rw [hs]
    exact (ra.mono n4.ext).append (RA.one rv)
  | false =>
    show LcI B1 H1 p out (i + 1) H3
    exact ⟨B', acc, n.trans n3, o.step n3, by rw [hs]; exact ra⟩
theorem outs_step {α : Type} {l : List α} {c : α → Bool} {f : α → Dt} {i : Nat} {q : α} (h : l[i]? = some q) : ((l.take (i + 1)).filter c).map f = if c q = true then ((l.take i).filter c).map f ++ [f q] else ((l.take i).filter c).map f := by
  rw [List.take_add_one, h, Option.toList_some, List.filter_append, List.map_append]
  by_cases hc : c q = true
  · rw [if_pos hc, List.filter_cons, if_pos hc]; rfl
  · rw [if_neg hc, List.filter_cons, if_neg hc]
    show _ ++ [] = _
    rw [List.append_nil]
theorem outs_len {α : Type} {l : List α} {c : α → Bool} {f : α → Dt} (i : Nat) : (((l.take i).filter c).map f).length ≤ l.length := by
  rw [List.length_map]
  exact Nat.le_trans (List.length_filter_le _ _) (by rw [List.length_take]; omega)
/-- [te for j in tl if t], over a list of the data enc q -/
theorem ev_lc {α : Type} {l : List α} {enc : α → Dt} {c : α → Bool} {f : α → Dt} {vs : List Nat} (h : EvR ta σ B (.lst (l.map enc))) (hz : l.length < 100000) (hw : ∀ x, wipe ((wipe σ vs).set j (some x)) vs = wipe σ vs)
    (ht : ∀ q v B1, q ∈ l → Ex B B1 → R B1 v (enc q) → EvC t ((wipe σ vs).set j (some v)) B1 (c q)) (he : ∀ q v B1, q ∈ l → Ex B B1 → R B1 v (enc q) → c q = true → EvR te ((wipe σ vs).set j (some v)) B1 (f q)) :
    EvR (tLc (iList K ta) (gName j) t te vs) σ B (.lst ((l.filter c).map f)) := fun H0 e0 Q k => h H0 e0 _ fun v B1 H1 n rv => by
  obtain ⟨p, us, rfl, hp, ra⟩ := rv.lst_inv
  refine ⟨p, rfl, ⟨us, sq_of (n.sub _ _ hp)⟩, fun q hq => ?_⟩
  have hl : us.length = l.length := by rw [ra.len, List.length_map]
  refine lc_list (xs := us) (LcI B1 H1 q fun i => ((l.take i).filter c).map f) (lcI_start n.sub hq rfl) (fun i H' _ z => ?_) (fun i x H' hi z => ⟨hw x, ?_⟩) (fun H' z => ?_)
  · obtain ⟨B', acc, n', _, _⟩ := z
    exact sq_of (n'.sub _ _ (n'.ext _ _ hp))
  · obtain ⟨d, hd, rd⟩ := ra.getV hi
    rw [List.getElem?_map] at hd
    cases hq' : l[i]? with
    | none => rw [hq'] at hd; cases hd
    | some a =>
      rw [hq'] at hd
      cases hd
      have hm := List.mem_of_getElem? hq'
      exact lcI_turn z (Nat.lt_of_le_of_lt (outs_len i) hz) (ht a x B1 hm n.ext rd) (fun hc => he a x B1 hm n.ext rd hc) (outs_step hq')
  · obtain ⟨B', acc, n', o, ra'⟩ := z
    rw [hl] at ra'
    have ra' : RA B' acc (((l.take l.length).filter c).map f) := ra'
    rw [List.take_length] at ra'
    exact k _ _ H' ((n.trans (n'.give ⟨o.h0, o.b, o.h⟩))) (o.data ra')
/-- without a test -/
theorem ev_lc1 {α : Type} {l : List α} {enc : α → Dt} {f : α → Dt} {vs : List Nat} (h : EvR ta σ B (.lst (l.map enc))) (hz : l.length < 100000) (hw : ∀ x, wipe ((wipe σ vs).set j (some x)) vs = wipe σ vs)
    (he : ∀ q v B1, q ∈ l → Ex B B1 → R B1 v (enc q) → EvR te ((wipe σ vs).set j (some v)) B1 (f q)) : EvR (tLc (iList K ta) (gName j) tYes te vs) σ B (.lst (l.map f)) := by
  have g := ev_lc (K := K) (t := tYes) (c := fun _ => true) (f := f) h hz hw (fun _ _ _ _ _ _ => ec_yes) (fun q v B1 h1 h2 h3 _ => he q v B1 h1 h2 h3)
  rw [List.filter_eq_self.mpr (fun _ _ => rfl)] at g
  exact g
/-- over a tuple -/
theorem ev_lcT {α : Type} {l : List α} {enc : α → Dt} {c : α → Bool} {f : α → Dt} {vs : List Nat} (h : EvR ta σ B (.tup (l.map enc))) (hz : l.length < 100000) (hw : ∀ x, wipe ((wipe σ vs).set j (some x)) vs = wipe σ vs)
    (ht : ∀ q v B1, q ∈ l → Ex B B1 → R B1 v (enc q) → EvC t ((wipe σ vs).set j (some v)) B1 (c q)) (he : ∀ q v B1, q ∈ l → Ex B B1 → R B1 v (enc q) → c q = true → EvR te ((wipe σ vs).set j (some v)) B1 (f q)) :
    EvR (tLc (iTup K ta) (gName j) t te vs) σ B (.lst ((l.filter c).map f)) := fun H0 e0 Q k => h H0 e0 _ fun v B1 H1 n rv => by
  obtain ⟨p, us, rfl, hp, ra⟩ := rv.tup_inv
  refine ⟨p, rfl, ⟨us, st_of (n.sub _ _ hp)⟩, fun q hq => ?_⟩
  have hl : us.length = l.length := by rw [ra.len, List.length_map]
  refine lc_tup (xs := us) (LcI B1 H1 q fun i => ((l.take i).filter c).map f) (lcI_start n.sub hq rfl) (fun i H' _ z => ?_) (fun i x H' hi z => ⟨hw x, ?_⟩) (fun H' z => ?_)
  · obtain ⟨B', acc, n', _, _⟩ := z
    exact st_of (n'.sub _ _ (n'.ext _ _ hp))
  · obtain ⟨d, hd, rd⟩ := ra.getV hi
    rw [List.getElem?_map] at hd
    cases hq' : l[i]? with
    | none => rw [hq'] at hd; cases hd
    | some a =>
      rw [hq'] at hd
      cases hd
      have hm := List.mem_of_getElem? hq'
      exact lcI_turn z (Nat.lt_of_le_of_lt (outs_len i) hz) (ht a x B1 hm n.ext rd) (fun hc => he a x B1 hm n.ext rd hc) (outs_step hq')
  · obtain ⟨B', acc, n', o, ra'⟩ := z
    rw [hl] at ra'
    have ra' : RA B' acc (((l.take l.length).filter c).map f) := ra'
    rw [List.take_length] at ra'
    exact k _ _ H' ((n.trans (n'.give ⟨o.h0, o.b, o.h⟩))) (o.data ra')
theorem ev_lcT1 {α : Type} {l : List α} {enc : α → Dt} {f : α → Dt} {vs : List Nat} (h : EvR ta σ B (.tup (l.map enc))) (hz : l.length < 100000) (hw : ∀ x, wipe ((wipe σ vs).set j (some x)) vs = wipe σ vs)
    (he : ∀ q v B1, q ∈ l → Ex B B1 → R B1 v (enc q) → EvR te ((wipe σ vs).set j (some v)) B1 (f q)) : EvR (tLc (iTup K ta) (gName j) tYes te vs) σ B (.lst (l.map f)) := by
  have g := ev_lcT (K := K) (t := tYes) (c := fun _ => true) (f := f) h hz hw (fun _ _ _ _ _ _ => ec_yes) (fun q v B1 h1 h2 h3 _ => he q v B1 h1 h2 h3)
  rw [List.filter_eq_self.mpr (fun _ _ => rfl)] at g
  exact g
/-- over range(n) -/
theorem ev_lcR {n : Int} {c : Nat → Bool} {f : Nat → Dt} {vs : List Nat} (h : EvRA tl σ B [.int n]) (hz : 0 ≤ n ∧ n < 100000) (hw : ∀ x, wipe ((wipe σ vs).set j (some x)) vs = wipe σ vs)
    (ht : ∀ (q : Nat) B1, (q : Int) < n → Ex B B1 → EvC t ((wipe σ vs).set j (some (.int (q : Int)))) B1 (c q)) (he : ∀ (q : Nat) B1, (q : Int) < n → Ex B B1 → c q = true → EvR te ((wipe σ vs).set j (some (.int (q : Int)))) B1 (f q)) :
    EvR (tLc (iRng1 tl) (gName j) t te vs) σ B (.lst (((List.range n.toNat).filter c).map f)) := fun H0 e0 Q k => h H0 e0 _ fun v B1 H1 nw rv => by
  cases rv with | cons r1 rv =>
  cases r1; cases rv
  refine ⟨n, rfl, by omega, by omega, fun q hq => ?_⟩
  have hl : (List.range n.toNat).length = n.toNat := List.length_range
  refine lc_range (lo := 0) (n := n.toNat) (LcI B1 H1 q fun i => (((List.range n.toNat).take i).filter c).map f) (lcI_start nw.sub hq rfl) (fun i H' hi z => ?_) (fun H' z => ?_)
  · have e0 : (0 : Int) + (i : Int) = (i : Int) := Int.zero_add _
    rw [e0]
    have hq' : (List.range n.toNat)[i]? = some i := by rw [List.getElem?_range hi]
    exact ⟨hw _, lcI_turn z (Nat.lt_of_le_of_lt (outs_len i) (by omega)) (ht i B1 (by omega) nw.ext) (fun hc => he i B1 (by omega) nw.ext hc) (outs_step hq')⟩
  · obtain ⟨B', acc, n', o, ra'⟩ := z
    have ra' : RA B' acc ((((List.range n.toNat).take n.toNat).filter c).map f) := ra'
    rw [List.take_of_length_le (by omega)] at ra'
    exact k _ _ H' ((nw.trans (n'.give ⟨o.h0, o.b, o.h⟩))) (o.data ra')
theorem ev_lcR1 {n : Int} {f : Nat → Dt} {vs : List Nat} (h : EvRA tl σ B [.int n]) (hz : 0 ≤ n ∧ n < 100000) (hw : ∀ x, wipe ((wipe σ vs).set j (some x)) vs = wipe σ vs)
    (he : ∀ (q : Nat) B1, (q : Int) < n → Ex B B1 → EvR te ((wipe σ vs).set j (some (.int (q : Int)))) B1 (f q)) : EvR (tLc (iRng1 tl) (gName j) tYes te vs) σ B (.lst ((List.range n.toNat).map f)) := by
  have g := ev_lcR (t := tYes) (c := fun _ => true) (f := f) h hz hw (fun _ _ _ _ => ec_yes) (fun q B1 h1 h2 _ => he q B1 h1 h2)
  rw [List.filter_eq_self.mpr (fun _ _ => rfl)] at g
  exact g

/-! ### promises by data -/
def spD (g : List Dt → Dt → Prop) : Sp := fun vs H Q _ => ∃ B ds d, Ex B H ∧ RA B vs ds ∧ g ds d ∧ ∀ v B2 H2, New B H B2 H2 → R B2 v d → Q v H2
theorem ev_call {g : List Dt → Dt → Prop} {E : XK} (h : EvRA tl σ B ds) (hg : g ds d) : EvR (tCall (spD g) [] E tl) σ B d := fun H1 e Q q => h H1 e _ fun vs B1 H2 n ra => by
  refine ⟨B1, ds, d, n.sub, ?_, hg, fun v B2 H2 n2 rv => q v B2 H2 (n.trans n2) rv⟩
  rw [List.append_nil]
  exact ra
theorem ev_callK {g : List Dt → Dt → Prop} {E : XK} {gV : List V → List V → List V} {gD : List Dt → List Dt → List Dt} (h : EvRA tl σ B ds) (hk : EvRA tk σ B es) (rel : ∀ B vs ws as bs, RA B vs as → RA B ws bs → as.length = ds.length → bs.length = es.length → RA B (gV vs ws) (gD as bs)) (hg : g (gD ds es) d) :
    EvR (tCallK (spD g) gV E tl tk) σ B d := fun H1 e Q q => h H1 e _ fun vs B1 H2 n ra => (hk.mono n.ext) H2 n.sub _ fun ws B2 H3 n2 rb =>
  ⟨B2, _, d, n2.sub, rel B2 vs ws ds es (ra.mono n2.ext) rb rfl rfl, hg, fun v B3 H4 n3 rv => q v B3 H4 ((n.trans n2).trans n3) rv⟩
end
section
variable {P : Program} {w : World} {K : PySem.W.Frag} {mg : Str → Option Value} {base : Heap}
open PySem.Spec PyProof.Rows in
/-- a def by its body, by data -/
theorem fn_D {x qual : Str} {st : Stmt} {f : Addr} {fd : FuncData} {N ps : List Str} {k : Nat} {g : List Dt → Dt → Prop} (F : Fun K x qual st f fd) (S : FnScope N ps (defScope st)) (len : ∀ ds d, g ds d → ds.length = ps.length)
    (body : ∀ (cdv : Value) (Γ : Around) (below : List Env) (s : Shared) (B H : Hp) (vs : List V) (ds : List Dt) (d : Dt) (Q : VK) (E : XK), Γ.guards = some [] → Room k (Γ.deeper (envOfC qual (defScope st) s.heap.objs.size f cdv)) →
      Ex B H → RA B vs ds → g ds d → (∀ v B2 H2, New B H B2 H2 → R B2 v d → Q v H2) →
      ∃ t, PSs (cxOf CX0 P w K mg base N qual (defScope st) f cdv Γ below s H E).nox (defBody st) t ∧ t { nx := fun _ H' => Q .non H', rt := Q } (start N vs) H) : FnG P w K mg base CX0 (k + 1) f fd ps (spD g) := by
  obtain ⟨oc, od, kV, doc, pm, an, cdv, ct, osl, rfl, lk, hcd⟩ := F.ex
  refine fnG_of lk hcd S (fun vs H Q E h => ?_) (fun Γ below s H vs Q E hg hr h => ?_)
  · obtain ⟨B, ds, d, _, ra, hd, _⟩ := h
    rw [ra.len]
    exact len ds d hd
  · obtain ⟨B, ds, d, e, ra, hd, q⟩ := h
    obtain ⟨t, h1, h2⟩ := body cdv Γ below s B H vs ds d Q E hg hr e ra hd q
    exact ⟨t, h1.nox, h2⟩
end
end U

namespace U
open PySem L2 Evl

section
variable {X : Cx}
theorem op_addA : OpR X (binaryOp .Add) (rOr (rI0 fun i j => .int (i + j)) rCat) := op_add.or op_cat
theorem op_eqA (hu : X.A.units + 64 < cLine) : OpR X (compareOp .Eq) (rOr rEq (rEqD X.K)) := op_eq.or (op_eqD hu)
theorem op_neA (hu : X.A.units + 64 < cLine) : OpR X (compareOp .NotEq) (rOr rNe (rNeD X.K)) := op_ne.or (op_neD hu)
theorem op_isT : OpR X (compareOp .Is) rIsTy := op_isTX
theorem c_len : CallR X (.builtin "len") (rLenS X.K) := call_len_seq
theorem c_list : CallR X (.type "list") (rListS X.K) := call_list_of
theorem c_tuple : CallR X (.type "tuple") (rTupleS X.K) := call_tuple_of
theorem c_abs : CallR X (.builtin "abs") rAbs := call_abs
theorem c_int : CallR X (.type "int") rInt1 := call_int1
theorem c_max (h : X.calm = true) : CallR X (.builtin "max") rMax2 := call_max2 h
theorem c_min (h : X.calm = true) : CallR X (.builtin "min") rMin2 := call_min2 h
def rReprD : List V → Hp → VK → Prop := fun xs H Q => rRepr H xs Q
theorem c_repr (g : X.A.guards = some []) (hu : X.A.units + 64 < cLine) : CallR X (.builtin "repr") rReprD := call_repr g hu
theorem rl_reprD {d : Dt} (hq : isSeq d = true) (f : Fit d) : RL rReprD [d] (.str d.py.shown) := rl_repr hq f
end
/-! ### walking a list or a tuple, whichever it is -/
def iSeq (K : PySem.W.Frag) (tl : TE) : TI := fun σ H R => tl σ H fun x H1 => ∃ a, x = .ref a ∧ (((∃ xs, SqL K H1 a xs) ∧ R (Itl K a) H1) ∨ ((∃ xs, SqT K H1 a xs) ∧ R (Itt K a) H1))
open PySem.Spec PyProof.Rows in
theorem pi_seq {X : Cx} {tg l : Expr} {tl : TE} (hl : PE X l tl) : PI X tg l (iSeq X.K tl) := by
  constructor
  intro pins s σ H R I h
  refine thn (hl.run pins s σ H _ I h) ?_
  rintro v s1 ⟨x, H1, I1, rx, a, ex, both⟩
  rw [ex] at rx
  have ev : v = .ref a := rx
  rw [ev]
  have mine : ∀ b ∈ [s1.heap.objs.size], FpOk X pins H1 b := by
    intro b hb
    rw [List.mem_singleton.mp hb]
    exact I1.fpOk (Nat.le_refl _) (I1.hok.fresh (Nat.le_refl _))
  rcases both with ⟨⟨xs, hq⟩, q⟩ | ⟨⟨xs, hq⟩, q⟩
  · obtain ⟨its, _, p, _⟩ := I1.list hq
    apply wpAny_pyIter_list p.isList
    exact ⟨_, _, _, _, H1, rfl, I1.kept (t' := s1.toks) (fun b o e => Heap.get?_push_of_some _ e), turn_list a _, ⟨_, Heap.get?_push_size _ rfl, rfl, rfl⟩, mine, q⟩
  · obtain ⟨its, _, p, _⟩ := I1.tuple hq
    apply wpAny_pyIter_tuple (show s1.heap.IsTuple a its.toArray from p)
    exact ⟨_, _, _, _, H1, rfl, I1.kept (t' := s1.toks) (fun b o e => Heap.get?_push_of_some _ e), turn_tuple a _, ⟨_, Heap.get?_push_size _ rfl, rfl, rfl⟩, mine, q⟩
section
variable {K : PySem.W.Frag} {σ : L2.St} {B B' H : Hp} {ta te : TE} {t : TT} {ds : List Dt} {j : Nat} {D : Ends} {tu : TS} {g : TG}
def isL : Dt → Prop
  | .lst _ => True
  | _ => False
/-- the items of a list or a tuple -/
inductive Items : Dt → List Dt → Prop
  | lst (ds : List Dt) : Items (.lst ds) ds
  | tup (ds : List Dt) : Items (.tup ds) ds
theorem q_for {d : Dt} (e : Ex B H) (h : EvR te σ B d) (it : Items d ds) (Pv : Hp → Hp → Nat → L2.St → Hp → Prop) (h0 : ∀ B1 H1, New B H B1 H1 → Pv B1 H1 0 σ H1) (hx : ∀ B1 H1 i σ' H', Pv B1 H1 i σ' H' → Ex B1 H')
    (hs : ∀ B1 H1 i d v σ' H', New B H B1 H1 → ds[i]? = some d → R B1 v d → Pv B1 H1 i σ' H' → g v σ' H' fun σ2 H2 => tu { D with nx := Pv B1 H1 (i + 1), ct := Pv B1 H1 (i + 1), bk := D.nx } σ2 H2)
    (hd : ∀ B1 H1 σ' H', New B H B1 H1 → Pv B1 H1 ds.length σ' H' → D.nx σ' H') : tFor (iSeq K te) g tu D σ H := h H e _ fun v B1 H1 n rv => by
  cases it with
  | lst =>
    obtain ⟨p, vs, rfl, hp, ra⟩ := rv.lst_inv
    refine ⟨p, rfl, .inl ⟨⟨vs, sq_of (n.sub _ _ hp)⟩, for_list (K := K) (a := p) (xs := vs) (Pv B1 H1) (h0 B1 H1 n) (fun i σ' H' _ q => sq_of (hx B1 H1 i σ' H' q _ _ hp)) (fun i v σ' H' hi q => ?_) (fun σ' H' q => hd B1 H1 σ' H' n (by rw [← ra.len]; exact q))⟩⟩
    obtain ⟨d, hd', rd⟩ := ra.getV hi
    exact hs B1 H1 i d v σ' H' n hd' rd q
  | tup =>
    obtain ⟨p, vs, rfl, hp, ra⟩ := rv.tup_inv
    refine ⟨p, rfl, .inr ⟨⟨vs, st_of (n.sub _ _ hp)⟩, for_tup (K := K) (a := p) (xs := vs) (Pv B1 H1) (h0 B1 H1 n) (fun i σ' H' _ q => st_of (hx B1 H1 i σ' H' q _ _ hp)) (fun i v σ' H' hi q => ?_) (fun σ' H' q => hd B1 H1 σ' H' n (by rw [← ra.len]; exact q))⟩⟩
    obtain ⟨d, hd', rd⟩ := ra.getV hi
    exact hs B1 H1 i d v σ' H' n hd' rd q
theorem q_lc {d : Dt} {α : Type} {l : List α} {enc : α → Dt} {c : α → Bool} {f : α → Dt} {vs : List Nat} (h : EvR ta σ B d) (it : Items d (l.map enc)) (hz : l.length < 100000) (hw : ∀ x, wipe ((wipe σ vs).set j (some x)) vs = wipe σ vs)
    (ht : ∀ q v B1, q ∈ l → Ex B B1 → R B1 v (enc q) → EvC t ((wipe σ vs).set j (some v)) B1 (c q)) (he : ∀ q v B1, q ∈ l → Ex B B1 → R B1 v (enc q) → c q = true → EvR te ((wipe σ vs).set j (some v)) B1 (f q)) :
    EvR (tLc (iSeq K ta) (gName j) t te vs) σ B (.lst ((l.filter c).map f)) := fun H0 e0 Q k => h H0 e0 _ fun v B1 H1 n rv => by
  cases it with
  | lst =>
    obtain ⟨p, us, rfl, hp, ra⟩ := rv.lst_inv
    have g := ev_lc (K := K) (σ := σ) (B := B1) (ta := fun σ H Q => Q (.ref p) H) (fun H1 e Q q => q _ B1 H1 (New.refl e) (.lst hp ra)) hz hw (fun q v B2 h1 h2 h3 => ht q v B2 h1 (n.ext.trans h2) h3) (fun q v B2 h1 h2 h3 h4 => he q v B2 h1 (n.ext.trans h2) h3 h4)
    obtain ⟨a, e1, h1, h2⟩ := g H1 n.sub Q fun v B2 H2 n2 r2 => k v B2 H2 (n.trans n2) r2
    exact ⟨a, e1, .inl ⟨h1, h2⟩⟩
  | tup =>
    obtain ⟨p, us, rfl, hp, ra⟩ := rv.tup_inv
    have g := ev_lcT (K := K) (σ := σ) (B := B1) (ta := fun σ H Q => Q (.ref p) H) (fun H1 e Q q => q _ B1 H1 (New.refl e) (.tup hp ra)) hz hw (fun q v B2 h1 h2 h3 => ht q v B2 h1 (n.ext.trans h2) h3) (fun q v B2 h1 h2 h3 h4 => he q v B2 h1 (n.ext.trans h2) h3 h4)
    obtain ⟨a, e1, h1, h2⟩ := g H1 n.sub Q fun v B2 H2 n2 r2 => k v B2 H2 (n.trans n2) r2
    exact ⟨a, e1, .inr ⟨h1, h2⟩⟩
theorem q_lc1 {d : Dt} {α : Type} {l : List α} {enc : α → Dt} {f : α → Dt} {vs : List Nat} (h : EvR ta σ B d) (it : Items d (l.map enc)) (hz : l.length < 100000) (hw : ∀ x, wipe ((wipe σ vs).set j (some x)) vs = wipe σ vs)
    (he : ∀ q v B1, q ∈ l → Ex B B1 → R B1 v (enc q) → EvR te ((wipe σ vs).set j (some v)) B1 (f q)) : EvR (tLc (iSeq K ta) (gName j) tYes te vs) σ B (.lst (l.map f)) := by
  have g := q_lc (K := K) (t := tYes) (c := fun _ => true) (f := f) h it hz hw (fun _ _ _ _ _ _ => ec_yes) (fun q v B1 h1 h2 h3 _ => he q v B1 h1 h2 h3)
  rw [List.filter_eq_self.mpr (fun _ _ => rfl)] at g
  exact g
end
section
variable {K : PySem.W.Frag} {mg : Str → Option Value}
/-- a def of the text and where it stands -/
structure At (K : PySem.W.Frag) (mg : Str → Option Value) (x : Str) (st : Stmt) (f : Addr) (fd : FuncData) : Prop where
  F : Fun K x x st f fd
  at_ : mg x = some (.ref f)
theorem kb_of {x qual : Str} {st : Stmt} {f : Addr} {fd : FuncData} {ps ks : List Str} {gg : List Value → List Value → List Value} {gV : List V → List V → List V} (F : Fun K x qual st f fd)
    (h : ∀ (kV doc pm : Value) (an : Option Addr) (cdv ct : Value) (us ws : List Value), (gg us ws).length = ps.length → bindArgs (PySem.W.fnOf x qual (defArgs st) (defBody st) (defScope st) .none kV doc pm an cdv ct) ⟨us, ks.zip ws⟩ = pure (ps.zip (gg us ws)))
    (rel : ∀ {vs : List V} {us : List Value} {zs : List V} {ws : List Value}, Vals vs us → Vals zs ws → Vals (gV vs zs) (gg us ws)) : KBinds K fd ps ks gg gV := by
  obtain ⟨oc, od, kV, doc, pm, an, cdv, ct, osl, rfl, lk, hcd⟩ := F.ex
  exact ⟨fun s us ws _ hl => .of_eq (h kV doc pm an cdv ct us ws hl), rel⟩
end
end U

namespace U
open PySem L2
open Evl (Ex fresh_back sz_of sz_lt sq_of st_of rLenS rListS)

theorem set_same {α : Type} {x : α} : ∀ {l : List α} {i : Nat}, l[i]? = some x → l.set i x = l
  | [], _, h => by simp at h
  | y :: l, 0, h => by simp at h; rw [h]; rfl
  | y :: l, i + 1, h => by rw [List.set_cons_succ, set_same (by simpa using h)]
/-- a new list, in nobody's hands -/
def EvL (te : TE) (σ : L2.St) (B : Hp) (ds : List Dt) : Prop := ∀ H1, Ex B H1 → ∀ Q : VK, (∀ p vs B2 H2, New B H1 B2 H2 → Own H1 B2 H2 p vs → RA B2 vs ds → Q (.ref p) H2) → te σ H1 Q
section
variable {K : PySem.W.Frag} {σ : L2.St} {B B' H : Hp} {ta tb te tc : TE} {t u : TT} {tl tr tk : TA} {x y z d : Dt} {xs ds es : List Dt} {r r' : R2} {a b : Bool} {j : Nat} {D : Ends} {tu tw tz : TS} {i k : Int}
theorem EvL.toR (h : EvL te σ B ds) : EvR te σ B (.lst ds) := fun H1 e Q q => h H1 e Q fun p vs B2 H2 n o ra => q _ _ H2 (n.give o) (o.data ra)
theorem EvL.is (h : EvL te σ B ds) (q : ds = es) : EvL te σ B es := q ▸ h
theorem own_new {p : Addr} {vs : List V} (e : Ex B H) (hp : H p = none) : New B H B (upd H p (.lst vs)) ∧ Own H B (upd H p (.lst vs)) p vs :=
  ⟨⟨Ex.refl _, Evl.Ex.mut e (fresh_back e hp), Evl.Ex.new hp, fun _ h _ => h⟩, ⟨hp, fresh_back e hp, upd_same⟩⟩
theorem New.own {B0 H0 B1 H1 B2 H2 : Hp} {p : Addr} {vs : List V} (n : New B0 H0 B1 H1) (o : Own H1 B2 H2 p vs) : Own H0 B2 H2 p vs :=
  ⟨fresh_back n.heap o.h0, o.b, o.h⟩
theorem el_lst (h : EvRA tl σ B ds) (hl : ds.length ≤ 100000) : EvL (tLst tl) σ B ds := fun H1 e Q q =>
  h H1 e _ fun vs B2 H2 n rv => ⟨by rw [rv.len]; exact sz_of hl, fun p hp => q p vs B2 _ (n.trans (own_new n.sub hp).1) (n.own (own_new n.sub hp).2) rv⟩
theorem el_list (h : EvR te σ B (.lst ds)) : EvL (tCB (rListS K) (tCons te tNil)) σ B ds := fun H1 e Q q =>
  h H1 e _ fun v B2 H2 n rv => by
    obtain ⟨p, vs, rfl, hp, ra⟩ := rv.lst_inv
    exact ⟨p, vs, rfl, .inl (sq_of (n.sub _ _ hp)), fun l hl => q l vs B2 _ (n.trans (own_new n.sub hl).1) (n.own (own_new n.sub hl).2) ra⟩
/-- a comprehension -/
theorem el_lc {α : Type} {l : List α} {enc : α → Dt} {c : α → Bool} {f : α → Dt} {vs : List Nat} (h : EvR ta σ B d) (it : Items d (l.map enc)) (hz : l.length < 100000) (hw : ∀ x, wipe ((wipe σ vs).set j (some x)) vs = wipe σ vs)
    (ht : ∀ q v B1, q ∈ l → Ex B B1 → R B1 v (enc q) → EvC t ((wipe σ vs).set j (some v)) B1 (c q)) (he : ∀ q v B1, q ∈ l → Ex B B1 → R B1 v (enc q) → c q = true → EvR te ((wipe σ vs).set j (some v)) B1 (f q)) :
    EvL (tLc (iSeq K ta) (gName j) t te vs) σ B ((l.filter c).map f) := fun H0 e0 Q k => h H0 e0 _ fun v B1 H1 n rv => by
  have main : ∀ (J : It) (us : List V) (ra : RA B1 us (l.map enc)), ∀ q, H1 q = none → (∀ i x H', us[i]? = some x → LcI B1 H1 q (fun i => ((l.take i).filter c).map f) i H' →
      t ((wipe σ vs).set j (some x)) H' fun b H3 => if b = true then te ((wipe σ vs).set j (some x)) H3 fun y H4 => ∃ acc, H4 q = some (.lst acc) ∧ acc.length < sizeLine ∧ LcI B1 H1 q (fun i => ((l.take i).filter c).map f) (i + 1) (upd H4 q (.lst (acc ++ [y]))) else LcI B1 H1 q (fun i => ((l.take i).filter c).map f) (i + 1) H3) := by
    intro J us ra q hq i x H' hi zz
    obtain ⟨d, hd, rd⟩ := ra.getV hi
    rw [List.getElem?_map] at hd
    cases hq' : l[i]? with
    | none => rw [hq'] at hd; cases hd
    | some a =>
      rw [hq'] at hd
      cases hd
      have hm := List.mem_of_getElem? hq'
      exact lcI_turn zz (Nat.lt_of_le_of_lt (outs_len i) hz) (ht a x B1 hm n.ext rd) (fun hc => he a x B1 hm n.ext rd hc) (outs_step hq')
  have fin : ∀ (us : List V), RA B1 us (l.map enc) → ∀ q H', LcI B1 H1 q (fun i => ((l.take i).filter c).map f) us.length H' → Q (.ref q) H' := by
    intro us ra q H' zz
    have hl : us.length = l.length := by rw [ra.len, List.length_map]
    obtain ⟨B', acc, n', o, ra'⟩ := zz
    rw [hl] at ra'
    have ra' : RA B' acc (((l.take l.length).filter c).map f) := ra'
    rw [List.take_length] at ra'
    exact k q acc B' H' (n.trans n') ⟨fresh_back n.heap o.h0, o.b, o.h⟩ ra'
  cases it with
  | lst =>
    obtain ⟨p, us, rfl, hp, ra⟩ := rv.lst_inv
    refine ⟨p, rfl, .inl ⟨⟨us, sq_of (n.sub _ _ hp)⟩, fun q hq => ?_⟩⟩
    exact lc_list (xs := us) (LcI B1 H1 q fun i => ((l.take i).filter c).map f) (lcI_start n.sub hq rfl) (fun i H' _ ⟨B', acc, n', _, _⟩ => sq_of (n'.sub _ _ (n'.ext _ _ hp))) (fun i x H' hi zz => ⟨hw x, main (Itl K p) us ra q hq i x H' hi zz⟩) (fun H' zz => fin us ra q H' zz)
  | tup =>
    obtain ⟨p, us, rfl, hp, ra⟩ := rv.tup_inv
    refine ⟨p, rfl, .inr ⟨⟨us, st_of (n.sub _ _ hp)⟩, fun q hq => ?_⟩⟩
    exact lc_tup (xs := us) (LcI B1 H1 q fun i => ((l.take i).filter c).map f) (lcI_start n.sub hq rfl) (fun i H' _ ⟨B', acc, n', _, _⟩ => st_of (n'.sub _ _ (n'.ext _ _ hp))) (fun i x H' hi zz => ⟨hw x, main (Itt K p) us ra q hq i x H' hi zz⟩) (fun H' zz => fin us ra q H' zz)
theorem el_lc1 {α : Type} {l : List α} {enc : α → Dt} {f : α → Dt} {vs : List Nat} (h : EvR ta σ B d) (it : Items d (l.map enc)) (hz : l.length < 100000) (hw : ∀ x, wipe ((wipe σ vs).set j (some x)) vs = wipe σ vs)
    (he : ∀ q v B1, q ∈ l → Ex B B1 → R B1 v (enc q) → EvR te ((wipe σ vs).set j (some v)) B1 (f q)) : EvL (tLc (iSeq K ta) (gName j) tYes te vs) σ B (l.map f) := by
  have g := el_lc (K := K) (t := tYes) (c := fun _ => true) (f := f) h it hz hw (fun _ _ _ _ _ _ => ec_yes) (fun q v B1 h1 h2 h3 _ => he q v B1 h1 h2 h3)
  rw [List.filter_eq_self.mpr (fun _ _ => rfl)] at g
  exact g
/-- a promise: a new list -/
def spL (g : List Dt → List Dt → Prop) : Sp := fun vs H Q _ => ∃ B as ds, Ex B H ∧ RA B vs as ∧ g as ds ∧ ∀ p us B2 H2, New B H B2 H2 → Own H B2 H2 p us → RA B2 us ds → Q (.ref p) H2
theorem el_call {g : List Dt → List Dt → Prop} {E : XK} (h : EvRA tl σ B xs) (hg : g xs ds) : EvL (tCall (spL g) [] E tl) σ B ds := fun H1 e Q q => h H1 e _ fun vs B1 H2 n ra => by
  refine ⟨B1, xs, ds, n.sub, by rw [List.append_nil]; exact ra, hg, fun p us B2 H3 n2 o r2 => q p us B2 H3 (n.trans n2) (n.own o) r2⟩
theorem s_asgL {q : Nat} (e : Ex B H) (h : EvL te σ B ds) (k : ∀ p vs B1 H1, New B H B1 H1 → Own H B1 H1 p vs → RA B1 vs ds → D.nx (σ.set q (some (.ref p))) H1) : tAsg te (gName q) D σ H := h H e _ k
theorem s_retL (e : Ex B H) (h : EvL te σ B xs) (q : xs = ds) (k : ∀ p vs B1 H1, New B H B1 H1 → Own H B1 H1 p vs → RA B1 vs ds → D.rt (.ref p) H1) : tRet te D σ H := h H e _ fun p vs B1 H1 n o ra => k p vs B1 H1 n o (q ▸ ra)
/-- a < b < c -/
theorem ev_chain (ha : EvR ta σ B x) (hb : EvR tb σ B y) (hr : RV r x y (.bl a)) (hc : a = true → EvR tc σ B z) (hr' : a = true → RV r' y z (.bl b)) : EvR (tChain r r' ta tb tc) σ B (.bl (a && b)) := fun H1 e Q q =>
  ha H1 e _ fun v B2 H2 n rv => (hb.mono n.ext) H2 n.sub _ fun w B3 H3 n2 rw => hr B3 H3 v w n2.sub (rv.mono n2.ext) rw _ fun c B4 H4 n3 rc => by
    cases rc
    refine ⟨a, rfl, ?_⟩
    have n4 := (n.trans n2).trans n3
    cases a with
    | false => exact q _ B4 H4 n4 (.bl false)
    | true =>
      show tc σ H4 _
      exact ((hc rfl).mono n4.ext) H4 n4.sub _ fun u B5 H5 n5 ru => hr' rfl B5 H5 w u n5.sub (rw.mono (n3.ext.trans n5.ext)) ru Q fun c B6 H6 n6 rc => q c B6 H6 ((n4.trans n5).trans n6) rc
/-- false on the left -/
theorem ev_andF (h1 : EvR ta σ B (.bl a)) (h : a = false) : EvR (tAndV ta tb) σ B (.bl false) := by
  have g := ev_and (tb := tb) (b := false) h1 (fun e => by rw [h] at e; cases e)
  rw [h] at g
  exact g
/-- if c: x = e, x an int -/
theorem s_ifI {q : Nat} (e : Ex B H) (h : EvC t σ B b) (h1 : b = true → EvR te σ B (.int i)) (hx : σ[q]? = some (some (.int k))) (go : ∀ H1, Up B H H1 → D.nx (σ.set q (some (.int (if b = true then i else k)))) H1) : tIfS t (tAsg te (gName q)) tNext D σ H :=
  s_if e h (fun hb H1 u => (h1 hb) H1 u.sub _ fun v B2 H2 n rv => by
    cases rv
    have g := go H2 ⟨e, u.sub.trans n.heap, u.heap.trans n.heap⟩
    rw [if_pos hb] at g
    exact g) (fun hb H1 u => by
    have g := go H1 u
    rw [if_neg (by rw [hb]; exact Bool.false_ne_true)] at g
    have e0 : σ.set q (some (.int k)) = σ := set_same hx
    rw [e0] at g
    exact g)
/-- o[i] = e, o a list of one's own -/
theorem s_put {H0 : Hp} {p : Addr} {vs : List V} {n m : Nat} (e : Ex B H) (o : Own H0 B H p vs) (h : EvR te σ B d) (ho : σ[n]? = some (some (.ref p))) (hi : ∀ B1, Ex B B1 → EvR tb σ B1 (.int (m : Int))) (hm : m < vs.length)
    (go : ∀ v B1 H1, New B H B1 H1 → Own H0 B1 H1 p vs → R B1 v d → D.nx σ (upd H1 p (.lst (vs.set m v)))) : tAsg te (gSub (tVar n) tb rSetL) D σ H := h H e _ fun v B1 H1 n1 rv =>
  ⟨_, ho, (hi B1 n1.ext) H1 n1.sub _ fun w B2 H2 n2 rw => by
    cases rw
    have o2 := (o.step n1).step n2
    refine ⟨p, vs, m, m, rfl, rfl, o2.h, ?_, go v B2 H2 (n1.trans n2) o2 (rv.mono n2.ext)⟩
    unfold ixN
    simp only [Int.natCast_nonneg]
    first
      | (rw [if_pos (by omega)]; simp; done)
      | (simp [hm]; done)
      | (split <;> simp_all <;> omega)⟩
end
section
variable {P : Program} {w : World} {K : PySem.W.Frag} {mg : Str → Option Value} {base : Heap}
open PySem.Spec PyProof.Rows in
/-- a def by its body, whatever it promises -/
theorem fn_S {x qual : Str} {st : Stmt} {f : Addr} {fd : FuncData} {N ps : List Str} {k : Nat} {sp : Sp} (F : Fun K x qual st f fd) (S : FnScope N ps (defScope st)) (len : ∀ vs H Q E, sp vs H Q E → vs.length = ps.length)
    (body : ∀ (cdv : Value) (Γ : Around) (below : List Env) (s : Shared) (H : Hp) (vs : List V) (Q : VK) (E : XK), Γ.guards = some [] → Room k (Γ.deeper (envOfC qual (defScope st) s.heap.objs.size f cdv)) → sp vs H Q E →
      ∃ t, PSs (cxOf CX0 P w K mg base N qual (defScope st) f cdv Γ below s H E).nox (defBody st) t ∧ t { nx := fun _ H' => Q .non H', rt := Q } (start N vs) H) : FnG P w K mg base CX0 (k + 1) f fd ps sp := by
  obtain ⟨oc, od, kV, doc, pm, an, cdv, ct, osl, rfl, lk, hcd⟩ := F.ex
  refine fnG_of lk hcd S len (fun Γ below s H vs Q E hg hr h => ?_)
  obtain ⟨t, h1, h2⟩ := body cdv Γ below s H vs Q E hg hr h
  exact ⟨t, h1.nox, h2⟩
open PySem.Spec PyProof.Rows in
theorem fn_L {x qual : Str} {st : Stmt} {f : Addr} {fd : FuncData} {N ps : List Str} {k : Nat} {g : List Dt → List Dt → Prop} (F : Fun K x qual st f fd) (S : FnScope N ps (defScope st)) (len : ∀ ds d, g ds d → ds.length = ps.length)
    (body : ∀ (cdv : Value) (Γ : Around) (below : List Env) (s : Shared) (B H : Hp) (vs : List V) (as ds : List Dt) (Q : VK) (E : XK), Γ.guards = some [] → Room k (Γ.deeper (envOfC qual (defScope st) s.heap.objs.size f cdv)) →
      Ex B H → RA B vs as → g as ds → (∀ p us B2 H2, New B H B2 H2 → Own H B2 H2 p us → RA B2 us ds → Q (.ref p) H2) →
      ∃ t, PSs (cxOf CX0 P w K mg base N qual (defScope st) f cdv Γ below s H E).nox (defBody st) t ∧ t { nx := fun _ H' => Q .non H', rt := Q } (start N vs) H) : FnG P w K mg base CX0 (k + 1) f fd ps (spL g) := by
  refine fn_S F S (fun vs H Q E h => ?_) (fun cdv Γ below s H vs Q E hg hr h => ?_)
  · obtain ⟨B, as, ds, _, ra, hd, _⟩ := h
    rw [ra.len]
    exact len as ds hd
  · obtain ⟨B, as, ds, e, ra, hd, q⟩ := h
    exact body cdv Γ below s B H vs as ds Q E hg hr e ra hd q
end
theorem Own.up {H0 B H H1 : Hp} {p : Addr} {xs : List V} (o : Own H0 B H p xs) (u : Ex H H1) : Own H0 B H1 p xs := ⟨o.h0, o.b, u _ _ o.h⟩
theorem Own.ex {H0 B H : Hp} {p : Addr} {xs : List V} (e : Ex B H) (o : Own H0 B H p xs) : Ex (upd B p (.lst xs)) H := fun a u q => by
  by_cases ha : a = p
  · subst ha; rw [upd_same] at q; rw [← q]; exact o.h
  · rw [upd_ne ha] at q; exact e a u q
/-! ### data in short -/
abbrev eI (ns : List Int) : Dt := .lst (ns.map .int)
abbrev eSet (p q : List Int) : Dt := .tup [eI p, eI q]
abbrev eFr (a b : Int) : Dt := .tup [.int a, .int b]
theorem fitAll_ints {M : Nat} (hM : M ≤ 10 ^ 60) : ∀ (ns : List Int), (∀ n ∈ ns, n.natAbs < M) → fitAll (ns.map .int) = true
  | [], _ => by simp [fitAll]
  | n :: ns, h => by
    have h1 := h n List.mem_cons_self
    rw [List.map_cons, fitAll, fitAll_ints hM ns fun m hm => h m (List.mem_cons_of_mem _ hm), Dt.fit, decide_eq_true (by omega)]; rfl
theorem wtAll_ints : ∀ (ns : List Int), wtAll (ns.map .int) = ns.length
  | [] => rfl
  | n :: ns => by rw [List.map_cons, wtAll, wtAll_ints ns, Dt.wt, List.length_cons]; omega
theorem depAll_ints : ∀ (ns : List Int), depAll (ns.map .int) = 0
  | [] => rfl
  | n :: ns => by rw [List.map_cons, depAll, depAll_ints ns, Dt.dep]; rfl
theorem fit_eI {ns : List Int} (h : ∀ n ∈ ns, n.natAbs < 10 ^ 60) (hl : ns.length ≤ 1000) : Fit (eI ns) :=
  ⟨by rw [Dt.fit]; exact fitAll_ints (Nat.le_refl _) ns h, by rw [Dt.wt, wtAll_ints]; omega, by rw [Dt.dep, depAll_ints]; omega⟩
theorem fit_eSet {p q : List Int} (hp : ∀ n ∈ p, n.natAbs < 10 ^ 60) (hq : ∀ n ∈ q, n.natAbs < 10 ^ 60) (lp : p.length ≤ 1000) (lq : q.length ≤ 1000) : Fit (eSet p q) := by
  have h1 := fit_eI hp lp
  have h2 := fit_eI hq lq
  refine ⟨?_, ?_, ?_⟩
  · rw [Dt.fit, fitAll, fitAll, fitAll, h1.fit, h2.fit]; rfl
  · rw [Dt.wt, wtAll, wtAll, wtAll, Dt.wt, Dt.wt, wtAll_ints, wtAll_ints]; omega
  · rw [Dt.dep, depAll, depAll, depAll, Dt.dep, Dt.dep, depAll_ints, depAll_ints]; decide
theorem atI_ints {f : List Int} {i : Int} (h0 : 0 ≤ i) (h1 : i < f.length) : atI (f.map Dt.int) i = some (.int (f.getD i.toNat 0)) := by
  have e2 : i.toNat < f.length := by omega
  unfold atI ixN
  rw [List.length_map]
  first
    | (simp [h0, h1, e2]; done)
    | (simp [h0, h1, e2, List.getElem?_eq_getElem, List.getD]; done)
    | (split <;> simp_all [List.getElem?_eq_getElem, List.getD] <;> omega)
theorem eqv_nil {f : List Int} : PyData.eqv (eI f).py (Dt.lst []).py = decide (f = []) := by
  cases f with
  | nil => simp [Dt.py, pyAll, PyData.eqv, PyData.eqvAll]
  | cons x f => simp [Dt.py, pyAll, PyData.eqv, PyData.eqvAll]
theorem canLay_ints : ∀ (ns : List Int), PyData.canLayAll0 (pyAll (ns.map .int)) = true
  | [] => by simp [pyAll, PyData.canLayAll0]
  | n :: ns => by rw [List.map_cons, pyAll, PyData.canLayAll0, canLay_ints ns, Dt.py, PyData.canLay0]; rfl
theorem shaped_eI {ns : List Int} : SeqAt.shaped (eI ns).py = true := by
  unfold SeqAt.shaped
  rw [dep_py, Dt.dep, depAll_ints, Dt.py, PyData.canLay0, canLay_ints]
  rfl
theorem eqv_self {ns : List Int} : PyData.eqv (eI ns).py (eI ns).py = true := SeqAt.eqv_refl _ (SeqAt.canLay_of_shaped shaped_eI)
end U

namespace U
open PySem L2
open Evl (Ex fresh_back sz_of sz_lt sq_of st_of rLenS rListS)
section
variable {X : Cx} {K : PySem.W.Frag}
theorem k_seq {tg l : Expr} {tl : TE} (h : X.K = K) (hl : PE X l tl) : PI X tg l (iSeq K tl) := h ▸ pi_seq hl
theorem k_ix (h : X.K = K) : IxR X (rIx K) := h ▸ ix_seq
theorem k_eq (h : X.K = K) (hu : X.A.units + 64 < cLine) : OpR X (compareOp .Eq) (rOr rEq (rEqD K)) := h ▸ op_eqA hu
theorem k_ne (h : X.K = K) (hu : X.A.units + 64 < cLine) : OpR X (compareOp .NotEq) (rOr rNe (rNeD K)) := h ▸ op_neA hu
theorem k_len (h : X.K = K) : CallR X (.builtin "len") (rLenS K) := h ▸ c_len
theorem k_list (h : X.K = K) : CallR X (.type "list") (rListS K) := h ▸ c_list
theorem k_tuple (h : X.K = K) : CallR X (.type "tuple") (rTupleS K) := h ▸ c_tuple
theorem k_all (h : X.K = K) (hc : X.calm = true) : CallR X (.builtin "all") (rAll K) := h ▸ cr_all hc
theorem k_min (h : X.K = K) (hc : X.calm = true) : CallR X (.builtin "min") (L2.rMin K) := h ▸ cr_min hc
theorem k_isi (h : X.K = K) : CallR X (.builtin "isinstance") (rIsi K) := h ▸ call_isi
theorem k_in (h : X.K = K) : OpR X (compareOp .In) (rIn K false) := h ▸ op_in_seq
theorem k_notin (h : X.K = K) : OpR X (compareOp .NotIn) (rIn K true) := h ▸ op_notIn_seq
theorem k_slice (h : X.K = K) : SlR X (rSlL K) := h ▸ sl_list
end
section
variable {K : PySem.W.Frag} {σ : L2.St} {B B' H : Hp} {ta tb te tc : TE} {t : TT} {d0 d1 d : Dt} {b : Bool} {D : Ends} {i : Int}
/-- if c: x = e -/
theorem s_ifR {q : Nat} {v0 : V} (e : Ex B H) (h : EvC t σ B b) (h1 : b = true → EvR te σ B d1) (hx : σ[q]? = some (some v0)) (r0 : R B v0 d0) (go : ∀ v B1 H1, New B H B1 H1 → R B1 v (if b = true then d1 else d0) → D.nx (σ.set q (some v)) H1) : tIfS t (tAsg te (gName q)) tNext D σ H :=
  s_if e h (fun hb H1 u => (h1 hb) H1 u.sub _ fun v B2 H2 n rv => by
    refine go v B2 H2 (u.new.trans n) ?_
    rw [if_pos hb]
    exact rv) (fun hb H1 u => by
    have g := go v0 B H1 u.new (by rw [if_neg (by rw [hb]; exact Bool.false_ne_true)]; exact r0)
    rw [set_same hx] at g
    exact g)
/-- x[i], x a tuple whose items are not all told -/
theorem ev_ixRaw {n : Nat} {p : Addr} {vs : List V} {v : V} (h : σ[n]? = some (some (.ref p))) (hb : B p = some (.tup vs)) (hi : atI vs i = some v) (r : R B v d) : EvR (tOp (rIx K) (tVar n) (tC (.int i))) σ B d := fun H1 e Q q =>
  ⟨_, h, .inr (.inl ⟨p, vs, i, v, rfl, rfl, st_of (e _ _ hb), hi, q v B H1 (New.refl e) r⟩)⟩
theorem atI_two {d : Dt} {x : Int} (h0 : 0 ≤ x) (h1 : x < 2) : atI [d, d] x = some d := by
  have : x = 0 ∨ x = 1 := by omega
  rcases this with e | e <;> rw [e] <;> rfl
theorem atI_hd {x : Int} {xs : List Int} : atI ((x :: xs).map V.int) 0 = some (.int x) := by
  have h : ((0 : Int) < ((x :: xs).map V.int).length) := by rw [List.length_map, List.length_cons]; omega
  unfold atI ixN
  first
    | (simp; done)
    | (split <;> simp_all <;> omega)
theorem ixN_0 {α : Type} {x : α} {xs : List α} : ixN (x :: xs).length 0 = some 0 := by
  unfold ixN
  first
    | (simp; done)
    | (split <;> simp_all <;> omega)
end
end U

namespace U
open PySem L2
open Evl (Ex fresh_back sz_of sz_lt sq_of st_of rLenS rListS)
section
variable {K : PySem.W.Frag} {σ : L2.St} {B B' H : Hp} {ta tb te tc : TE} {t : TT} {x y z d d0 d1 d2 d3 d4 : Dt} {ds es : List Dt} {b : Bool} {D : Ends} {i j k l : Nat}
/-- plain values -/
def Dt.fl : Dt → Bool
  | .lst _ | .tup _ | .exc _ => false
  | _ => true
def Dt.v : Dt → V
  | .non => .non | .bl b => .bl b | .int i => .int i | .str s => .str s | _ => .non
theorem R.fl {v : V} (h : R B v d) (f : d.fl = true) : v = d.v ∧ flatV v = true := by
  cases h with
  | lst _ _ => cases f
  | tup _ _ => cases f
  | exc _ => cases f
  | _ => exact ⟨rfl, rfl⟩
theorem RA.fl : ∀ {vs : List V} {ds : List Dt}, RA B vs ds → ds.all Dt.fl = true → vs = ds.map Dt.v ∧ vs.all flatV = true
  | _, _, .nil, _ => ⟨rfl, rfl⟩
  | _, _, .cons a r, f => by
    rw [List.all_cons, Bool.and_eq_true] at f
    obtain ⟨h1, h2⟩ := R.fl a f.1
    obtain ⟨h3, h4⟩ := RA.fl r f.2
    exact ⟨by rw [List.map_cons, ← h1, ← h3], by rw [List.all_cons, h2, h4]; rfl⟩
theorem rv_in {neg : Bool} (hx : x.fl = true) (it : Items y ds) (hf : ds.all Dt.fl = true) : RV (rIn K neg) x y (.bl (if neg then !inV x.v (ds.map Dt.v) else inV x.v (ds.map Dt.v))) := fun B H1 v w e r1 r2 Q q => by
  obtain ⟨h1, h2⟩ := r1.fl hx
  cases it with
  | lst =>
    obtain ⟨p, vs, rfl, hp, ra⟩ := r2.lst_inv
    obtain ⟨h3, h4⟩ := ra.fl hf
    exact ⟨p, vs, rfl, .inl (sq_of (e _ _ hp)), h2, h4, by rw [h1, h3]; exact q _ B H1 (New.refl e) (.bl _)⟩
  | tup =>
    obtain ⟨p, vs, rfl, hp, ra⟩ := r2.tup_inv
    obtain ⟨h3, h4⟩ := ra.fl hf
    exact ⟨p, vs, rfl, .inr (st_of (e _ _ hp)), h2, h4, by rw [h1, h3]; exact q _ B H1 (New.refl e) (.bl _)⟩
theorem RA.flat : ∀ (n : Nat) {vs : List V} {ds : List Dt}, RA B vs ds → RA B (List.replicate n vs).flatten (List.replicate n ds).flatten
  | 0, _, _, _ => .nil
  | n + 1, _, _, h => by rw [List.replicate_succ, List.replicate_succ, List.flatten_cons, List.flatten_cons]; exact h.append (RA.flat n h)
theorem rv_rep {n : Int} (hn : 0 ≤ n ∧ n ≤ 1000) (hd : ds.length ≤ 10) : RV rRep (.lst ds) (.int n) (.lst (List.replicate n.toNat ds).flatten) := fun B H1 v w e r1 r2 Q q => by
  cases r2
  obtain ⟨p, vs, rfl, hp, ra⟩ := r1.lst_inv
  refine ⟨p, n, vs, rfl, rfl, e _ _ hp, by omega, by omega, ?_, fun l hl => q _ (upd B l _) _ (New.one e hl) (.lst upd_same ((ra.flat n.toNat).mono (Evl.Ex.new (fresh_back e hl))))⟩
  have h1 : vs.length * n.toNat ≤ 10 * 1000 := Nat.mul_le_mul (by rw [ra.len]; exact hd) (by omega)
  rw [sizeLine_eq]
  omega
theorem g_tup4 {v : V} {k' : L2.St → Hp → Prop} (e : Ex B H) (r : R B v (.tup [d1, d2, d3, d4])) (h : ∀ v1 v2 v3 v4, R B v1 d1 → R B v2 d2 → R B v3 d3 → R B v4 d4 → k' ((((σ.set i (some v1)).set j (some v2)).set k (some v3)).set l (some v4)) H) :
    gTup K 4 (gCons (gName i) (gCons (gName j) (gCons (gName k) (gCons (gName l) gNil)))) v σ H k' := by
  obtain ⟨p, vs, rfl, hp, ra⟩ := r.tup_inv
  cases ra with | cons r1 ra =>
  cases ra with | cons r2 ra =>
  cases ra with | cons r3 ra =>
  cases ra with | cons r4 ra =>
  cases ra
  exact ⟨p, _, rfl, st_of (e _ _ hp), rfl, _, _, rfl, _, _, rfl, _, _, rfl, _, _, rfl, rfl, h _ _ _ _ r1 r2 r3 r4⟩
theorem s_asg4 (e : Ex B H) (h : EvR te σ B (.tup [d1, d2, d3, d4])) (go : ∀ v1 v2 v3 v4 B1 H1, New B H B1 H1 → R B1 v1 d1 → R B1 v2 d2 → R B1 v3 d3 → R B1 v4 d4 → D.nx ((((σ.set i (some v1)).set j (some v2)).set k (some v3)).set l (some v4)) H1) :
    tAsg te (gTup K 4 (gCons (gName i) (gCons (gName j) (gCons (gName k) (gCons (gName l) gNil))))) D σ H := h H e _ fun v B1 H1 n rv =>
  g_tup4 (K := K) n.sub rv fun v1 v2 v3 v4 r1 r2 r3 r4 => go v1 v2 v3 v4 B1 H1 n r1 r2 r3 r4
/-- over range(n), a list of one's own -/
theorem el_lcR1 {n : Int} {f : Nat → Dt} {tl : TA} {vs : List Nat} (h : EvRA tl σ B [.int n]) (hz : 0 ≤ n ∧ n < 100000) (hw : ∀ x, wipe ((wipe σ vs).set j (some x)) vs = wipe σ vs)
    (he : ∀ (q : Nat) B1, (q : Int) < n → Ex B B1 → EvR te ((wipe σ vs).set j (some (.int (q : Int)))) B1 (f q)) : EvL (tLc (iRng1 tl) (gName j) tYes te vs) σ B ((List.range n.toNat).map f) := fun H0 e0 Q k => h H0 e0 _ fun v B1 H1 nw rv => by
  cases rv with | cons r1 rv =>
  cases r1; cases rv
  refine ⟨n, rfl, by omega, by omega, fun q hq => ?_⟩
  refine lc_range (lo := 0) (n := n.toNat) (LcI B1 H1 q fun i => (((List.range n.toNat).take i).filter fun _ => true).map f) (lcI_start nw.sub hq rfl) (fun i H' hi z => ?_) (fun H' z => ?_)
  · have e0 : (0 : Int) + (i : Int) = (i : Int) := Int.zero_add _
    rw [e0]
    have hq' : (List.range n.toNat)[i]? = some i := by rw [List.getElem?_range hi]
    exact ⟨hw _, lcI_turn z (Nat.lt_of_le_of_lt (outs_len i) (by rw [List.length_range]; omega)) ec_yes (fun _ => he i B1 (by omega) nw.ext) (outs_step hq')⟩
  · obtain ⟨B', acc, n', o, ra'⟩ := z
    have ra' : RA B' acc ((((List.range n.toNat).take n.toNat).filter fun _ => true).map f) := ra'
    rw [List.take_of_length_le (by rw [List.length_range]; omega), List.filter_eq_self.mpr (fun _ _ => rfl)] at ra'
    exact k q acc B' H' (nw.trans n') ⟨fresh_back nw.heap o.h0, o.b, o.h⟩ ra'
/-- for j in tl, the list of the data enc q, by what holds between the turns -/
theorem q_each {α : Type} {l : List α} {enc : α → Dt} {g : TG} {tu : TS} (e : Ex B H) (h : EvR te σ B d) (it : Items d (l.map enc)) (Pv : Nat → L2.St → Hp → Hp → Prop) (h0 : ∀ B1 H1, New B H B1 H1 → Pv 0 σ B1 H1)
    (hs : ∀ B1 i q v σ' B' H', l[i]? = some q → R B1 v (enc q) → Ex B1 B' → Ex B' H' → Pv i σ' B' H' → g v σ' H' fun σ2 H2 => tu { D with nx := fun σ3 H3 => ∃ B3, Ex B1 B3 ∧ Ex B3 H3 ∧ Pv (i + 1) σ3 B3 H3, ct := fun σ3 H3 => ∃ B3, Ex B1 B3 ∧ Ex B3 H3 ∧ Pv (i + 1) σ3 B3 H3, bk := D.nx } σ2 H2)
    (hd : ∀ σ' B' H', Ex B' H' → Pv l.length σ' B' H' → D.nx σ' H') : tFor (iSeq K te) g tu D σ H :=
  q_for e h it (fun B1 H1 i σ' H' => ∃ B', Ex B1 B' ∧ Ex B' H' ∧ Pv i σ' B' H') (fun B1 H1 n => ⟨B1, Evl.Ex.refl _, n.sub, h0 B1 H1 n⟩) (fun B1 H1 i σ' H' z => by
    obtain ⟨B', a, b, _⟩ := z
    exact a.trans b) (fun B1 H1 i dd v σ' H' n hi rv z => by
    obtain ⟨B', a, b, c⟩ := z
    rw [List.getElem?_map] at hi
    cases hq : l[i]? with
    | none => rw [hq] at hi; cases hi
    | some q =>
      rw [hq] at hi
      cases hi
      exact hs B1 i q v σ' B' H' hq rv a b c) (fun B1 H1 σ' H' n z => by
    obtain ⟨B', a, b, c⟩ := z
    rw [List.length_map] at c
    exact hd σ' B' H' b c)
end
def axS (b : Bool) : Str := if b = true then "x" else "y"
theorem ixN_nat {n m : Nat} (h : m < n) : ixN n (m : Int) = some m := by
  unfold ixN
  simp only [Int.natCast_nonneg]
  first
    | (rw [if_pos (by omega)]; simp; done)
    | (simp [h]; done)
    | (split <;> simp_all <;> omega)
theorem atI_nat' {α : Type} {xs : List α} {m : Nat} {v : α} (h : xs[m]? = some v) : atI xs (m : Int) = some v := by
  unfold atI
  rw [ixN_nat (List.getElem?_eq_some_iff.mp h).1]
  exact h
theorem atI_last' {α : Type} {xs : List α} {v : α} (h : xs[xs.length - 1]? = some v) : atI xs (-1) = some v := by
  have hl := (List.getElem?_eq_some_iff.mp h).1
  have e : ixN xs.length (-1) = some (xs.length - 1) := by
    unfold ixN
    first
      | (simp; omega; done)
      | (split <;> simp_all <;> omega)
  unfold atI
  rw [e]
  exact h
section
variable {K : PySem.W.Frag} {σ : L2.St} {B B' H : Hp} {te : TE} {D : Ends}
/-- o[i] = e, o a list of one's own that e may read, e an int -/
theorem s_putI {H0 : Hp} {p : Addr} {vs : List V} {n q k : Nat} {z : Int} (e : Ex B' H) (h : EvR te σ B' (.int z)) (o : Own H0 B H p vs) (ho : σ[n]? = some (some (.ref p))) (hi : σ[q]? = some (some (.int (k : Int)))) (hk : k < vs.length)
    (go : ∀ H1, Ex H H1 → D.nx σ (upd H1 p (.lst (vs.set k (.int z))))) : tAsg te (gSub (tVar n) (tVar q) rSetL) D σ H := h H e _ fun v B1 H1 n1 rv => by
  cases rv
  exact ⟨_, ho, _, hi, p, vs, k, k, rfl, rfl, n1.heap _ _ o.h, ixN_nat hk, go H1 n1.heap⟩
end
theorem RA.set {B : Hp} {v : V} {d : Dt} (r : R B v d) : ∀ {vs : List V} {ds : List Dt} (i : Nat), RA B vs ds → RA B (vs.set i v) (ds.set i d)
  | _, _, _, .nil => .nil
  | _, _, 0, .cons _ t => .cons r t
  | _, _, i + 1, .cons q t => .cons q (RA.set r i t)
/-- if c: .. without an else, a word between it and what follows -/
theorem s_if_cut {B H : Hp} {σ : L2.St} {t : TT} {tu : TS} {D : Ends} {b : Bool} (M : L2.St → Hp → Prop) (e : Ex B H) (h : EvC t σ B b) (hM : ∀ σ3 H3, M σ3 H3 → D.nx σ3 H3) (h1 : b = true → ∀ H1, Up B H H1 → ∀ D' : Ends, (∀ σ3 H3, M σ3 H3 → D'.nx σ3 H3) → tu D' σ H1)
    (h2 : b = false → ∀ H1, Up B H H1 → M σ H1) : tIfS t tu tNext D σ H := s_if e h (fun hb H1 u => h1 hb H1 u D hM) (fun hb H1 u => hM σ H1 (h2 hb H1 u))
theorem eqv_nilG (ds : List Dt) : PyData.eqv (Dt.lst ds).py (Dt.lst []).py = ds.isEmpty := by
  cases ds <;> simp [Dt.py, pyAll, PyData.eqv, PyData.eqvAll]
/-! ### (s, s', ..).index(e), the tuple written there -/
def tTupIdx (t : TA) (te : TE) : TE := fun σ H Q => t σ H fun xs H1 => xs.length ≤ sizeLine ∧ ∀ p, H1 p = none → tCons te tNil σ (upd H1 p (.tup xs)) fun vs H2 => ∃ (ys : List Str) (z : Str) (j : Nat),
  xs = ys.map V.str ∧ vs = [.str z] ∧ H2 p = some (.tup xs) ∧ ys[j]? = some z ∧ (∀ m, m < j → ys[m]? ≠ some z) ∧ Q (.int (j : Nat)) H2
open PySem.Spec PyProof.Rows in
theorem pe_tupIdx {X : Cx} {es : List Expr} {e : Expr} {x1} {p1 apos cpos : Pos} {t : TA} {te : TE} (h : PA X es t) (he : PE X e te)
    (base : attributeBase (.Tuple es x1 p1) "index" X.env (eval (.Tuple es x1 p1) X.env) = eval (.Tuple es x1 p1) X.env := by rfl)
    (few : ((backTo cpos (starEach [e] X.env)).all (fun x => !x.1) && (backToKw cpos (keywordEach [] X.env)).all (fun x => x.1.isSome) && decide ([e].length + ([] : List Keyword).length + (if ([] : List Keyword).isEmpty then 0 else 1) < 30)) = true := by rfl)
    (line : (apos.endLine == cpos.line) = true := by rfl) (one : starEach [e] X.env = (false, eval e X.env) :: starEach [] X.env := by rfl) :
    PE X (.Call (.Attribute (.Tuple es x1 p1) "index" apos) [e] [] cpos) (tTupIdx t te) := by
  constructor
  intro pins s σ H Q I hq
  refine wpAny_Call_method_late base few line rfl (wpAny_Tuple_spliced (thn (h.run p1 pins s σ H _ I hq) ?_))
  rintro us s1 ⟨xs, H1, I1, r, z, q⟩
  refine ⟨by rw [← r.length]; exact z, ?_⟩
  have hf : H1 s1.heap.objs.size = none := I1.hok.fresh (Nat.le_refl _)
  have got := Heap.get?_push_size s1.heap (o := { cls := .type "tuple", data := .seq us.toArray }) rfl
  have I2 : Inv X pins σ (upd H1 s1.heap.objs.size (.tup xs)) { s1 with heap := s1.heap.push { cls := .type "tuple", data := .seq us.toArray } } :=
    I1.laid (t' := s1.toks) (fun b u e => Heap.get?_push_of_some _ e) (Nat.le_refl _) ⟨z, us, r, ⟨_, got, rfl, _, rfl⟩⟩
  refine ⟨"tuple", "tuple.index", PySem.F.plainAttrs_tuple, PySem.F.slot_tuple_index, PySem.F.type_tuple_index, ⟨_, got, rfl⟩, fun a ea => by cases ea; exact ⟨_, got, rfl⟩, ?_⟩
  have args := (pa_cons he pa_nil one).run cpos pins _ σ _ _ I2 (q _ hf)
  rw [one] at args ⊢
  refine Calls.callWith_builtin (by rfl) (Calls.evalArgs_plain (thn args ?_))
  rintro ws s2 ⟨vs, H2, I3, r2, ys, zz, j, e1, e2, e3, e4, e5, q2⟩
  rw [e2] at r2
  exact mt_tup_index pins s2 σ H2 (.ref s1.heap.objs.size) [.str zz] _ ws Q I3 rfl r2 ⟨_, ys, zz, j, rfl, rfl, by rw [← e1]; exact SqT.of e3, e4, e5, q2⟩
theorem ev_idx {σ : L2.St} {B : Hp} {te : TE} {t : TA} {b : Bool} (h : EvRA t σ B [.str "x", .str "y"]) (he : EvR te σ B (.str (axS b))) : EvR (tTupIdx t te) σ B (.int (if b = true then 0 else 1)) := fun H1 e Q q =>
  h H1 e _ fun vs B2 H2 n ra => by
    refine ⟨by rw [ra.len]; show 2 ≤ sizeLine; decide, fun p hp => ?_⟩
    have e2 : Ex B2 (upd H2 p (.tup vs)) := n.sub.trans (Evl.Ex.new hp)
    refine (he.mono n.ext) _ e2 _ fun v B3 H3 n3 rv => ?_
    obtain ⟨h1, _⟩ := ra.fl rfl
    obtain ⟨h2, _⟩ := rv.fl rfl
    have hx : (("x" : Str) = "y") → False := by decide +kernel
    have n4 : New B H1 B3 H3 := n.trans ((New.grow e2 (Evl.Ex.new hp) n.sub).trans n3)
    cases b with
    | true => exact ⟨["x", "y"], "x", 0, h1, by rw [h2]; rfl, n3.heap _ _ upd_same, rfl, fun m hm => absurd hm (Nat.not_lt_zero _), q _ B3 H3 n4 (.int _)⟩
    | false => exact ⟨["x", "y"], "y", 1, h1, by rw [h2]; rfl, n3.heap _ _ upd_same, rfl, fun m hm z => by
        have : m = 0 := by omega
        subst this
        exact hx (Option.some.inj z), q _ B3 H3 n4 (.int _)⟩
/-! ### facts -/
structure Fa where
  ax : Bool
  i : Int
  j : Int
  l : Int
abbrev eFa (f : Fa) : Dt := .tup [.str (axS f.ax), .int f.i, .int f.j, .int f.l]
abbrev eFas (fs : List Fa) : Dt := .lst (fs.map eFa)
def Fa.n (f : Fa) (a b : Int) : Int := if f.ax = true then a else b
def FaOk (a b : Int) (f : Fa) : Prop := 0 ≤ f.i ∧ f.i < f.n a b ∧ 0 ≤ f.j ∧ f.j < f.n a b ∧ -6 ≤ f.l ∧ f.l ≤ 6
theorem fit_axS (b : Bool) : (Dt.str (axS b)).fit = true ∧ (Dt.str (axS b)).wt = 2 := by cases b <;> decide +kernel
theorem fitAll_fas {a b : Int} (ha : a ≤ 100) (hb : b ≤ 100) : ∀ (fs : List Fa), (∀ f ∈ fs, FaOk a b f) → fitAll (fs.map eFa) = true ∧ wtAll (fs.map eFa) = 6 * fs.length ∧ depAll (fs.map eFa) ≤ 1
  | [], _ => ⟨by simp [fitAll], by simp [wtAll], by simp [depAll]⟩
  | f :: fs, h => by
    obtain ⟨h1, h2, h3⟩ := fitAll_fas ha hb fs fun g hg => h g (List.mem_cons_of_mem _ hg)
    obtain ⟨i0, i1, j0, j1, l0, l1⟩ := h f List.mem_cons_self
    have hn : f.n a b ≤ 100 := by unfold Fa.n; split <;> assumption
    obtain ⟨q1, q2⟩ := fit_axS f.ax
    refine ⟨?_, ?_, ?_⟩
    · rw [List.map_cons, fitAll, h1, Dt.fit, fitAll, fitAll, fitAll, fitAll, fitAll, q1, Dt.fit, Dt.fit, Dt.fit, decide_eq_true (by omega), decide_eq_true (by omega), decide_eq_true (by omega)]; rfl
    · rw [List.map_cons, wtAll, h2, Dt.wt, wtAll, wtAll, wtAll, wtAll, wtAll, q2, Dt.wt, Dt.wt, Dt.wt, List.length_cons]; omega
    · rw [List.map_cons, depAll, Dt.dep, depAll, depAll, depAll, depAll, depAll, Dt.dep, Dt.dep, Dt.dep, Dt.dep]; omega
theorem canLay_fas : ∀ (fs : List Fa), PyData.canLayAll0 (pyAll (fs.map eFa)) = true
  | [] => by simp [pyAll, PyData.canLayAll0]
  | f :: fs => by
    have h : (Dt.str (axS f.ax)).py.canLay0 = true := by cases f.ax <;> decide +kernel
    rw [List.map_cons, pyAll, PyData.canLayAll0, canLay_fas fs, Dt.py, PyData.canLay0, pyAll, pyAll, pyAll, pyAll, pyAll, PyData.canLayAll0, h, Dt.py, Dt.py, Dt.py]
    rfl
theorem depAll_fas : ∀ (fs : List Fa), depAll (fs.map eFa) ≤ 1
  | [] => by simp [depAll]
  | f :: fs => by
    have := depAll_fas fs
    rw [List.map_cons, depAll, Dt.dep, depAll, depAll, depAll, depAll, depAll, Dt.dep, Dt.dep, Dt.dep, Dt.dep]; omega
theorem shaped_fas {fs : List Fa} : SeqAt.shaped (eFas fs).py = true := by
  have := depAll_fas fs
  unfold SeqAt.shaped
  rw [dep_py, Dt.dep, Dt.py, PyData.canLay0, canLay_fas]
  simp only [Bool.true_and, decide_eq_true_eq]
  omega
/-- facts beside settings, in one list -/
theorem fit_pair {fs : List Fa} {p q : List Int} {a b : Int} (ha : a ≤ 100) (hb : b ≤ 100) (hf : ∀ f ∈ fs, FaOk a b f) (lf : fs.length ≤ 1000) (hp : ∀ n ∈ p, n.natAbs < 10 ^ 60) (hq : ∀ n ∈ q, n.natAbs < 10 ^ 60) (lp : p.length ≤ 1000) (lq : q.length ≤ 1000) : Fit (.lst [eFas fs, eSet p q]) := by
  obtain ⟨h1, h2, h3⟩ := fitAll_fas ha hb fs hf
  have s := fit_eSet hp hq lp lq
  have s2 := s.wt
  have s3 : (eSet p q).dep = 2 := by rw [Dt.dep, depAll, depAll, depAll, Dt.dep, Dt.dep, depAll_ints, depAll_ints]; rfl
  have s4 : (eSet p q).wt = p.length + q.length + 3 := by rw [Dt.wt, wtAll, wtAll, wtAll, Dt.wt, Dt.wt, wtAll_ints, wtAll_ints]; omega
  refine ⟨?_, ?_, ?_⟩
  · rw [Dt.fit, fitAll, fitAll, fitAll, s.fit, Dt.fit, h1]; rfl
  · rw [Dt.wt, wtAll, wtAll, wtAll, s4, Dt.wt, h2]; omega
  · rw [Dt.dep, depAll, depAll, depAll, s3, Dt.dep]; omega
end U

namespace U
open PySem PySem.Spec PyProof.Rows L2
section
variable {P : Program} {w : World} {A : Around} {E : Value → Shared → Prop} {s : Shared}
abbrev set0 (w : World) : Obj := { cls := .type "set", dict := none, data := .set #[] 0 (.fresh 0 0 (!w.params.followText "set-order")) }
/-- what comes of it -/
def Made (w : World) (s : Shared) (ns : List Int) (s2 : Shared) : Prop := ∃ h' tk c, s2 = { s with heap := h', toks := tk } ∧ SetR w h' s.heap.objs.size (fun j => decide (j ∈ ns)) c ∧ ∀ b o, s.heap.get? b = some o → h'.get? b = some o
/-- its members put in -/
theorem fill_list {l : Addr} {items : Array Value} {ns : List Int} (hh : A.handled = none) (hl : s.heap.IsList l items) (hit : IntsAre items.toList ns) (hb : ns.length + 1 < scanBound) :
    codeAny (model P w) A (.builtin "set.update.loop" ⟨[.ref s.heap.objs.size, .ref (s.heap.push (set0 w)).objs.size], []⟩) (wants (fun r s2 => r = .none ∧ Made w s ns s2) E)
      { s with heap := (s.heap.push (set0 w)).push { cls := .type "list_iterator", data := .fields #[.ref l, .int 0 0] } } := by
  have hisz : items.size = ns.length := by
    have q := IntsAre.length hit
    rw [Array.length_toList] at q
    exact q
  have hlS : l < s.heap.objs.size := by
    obtain ⟨o, ho, _⟩ := hl
    exact Heap.lt_size ho
  have hS : (s.heap.push (set0 w)).get? s.heap.objs.size = some (set0 w) := Heap.get?_push_size _ rfl
  have hz1 : (s.heap.push (set0 w)).objs.size = s.heap.objs.size + 1 := Heap.size_push ..
  have hl1 : (s.heap.push (set0 w)).IsList l items := hl.push _
  have hneI : l ≠ (s.heap.push (set0 w)).objs.size := by rw [hz1]; exact Nat.ne_of_lt (Nat.lt_succ_of_lt hlS)
  have hSf : s.heap.objs.size ∉ [(s.heap.push (set0 w)).objs.size, l] := by
    rw [hz1]; simp only [List.mem_cons, List.mem_singleton, List.not_mem_nil, or_false, not_or]
    exact ⟨Nat.ne_of_lt (Nat.lt_succ_self _), Nat.ne_of_gt hlS⟩
  have hval : ∀ (i : Nat) (v : Value), items[i]? = some v → ∃ k t, ns[i]? = some k ∧ v = .int k t := fun i v hv => by
    have hi : i < ns.length := by rw [← hisz]; exact (Array.getElem?_eq_some_iff.mp hv).1
    obtain ⟨t, e⟩ := IntsAre.int_at hit i v (by rw [Array.getElem?_toList]; exact hv)
    refine ⟨ns[i], t, List.getElem?_eq_getElem hi, ?_⟩
    rw [e, List.getD_eq_getElem?_getD, List.getElem?_eq_getElem hi] <;> rfl
  refine set_update_ints ((Walks.list (A := A.in1) (by simp [hh]) _ l hneI items).toS) s.heap.objs.size hSf ns hisz hb hval (items.size - 0) 0 _ (by omega) (Nat.zero_le _)
    ⟨⟨_, Heap.get?_push_size _ rfl, rfl, rfl⟩, (hl1.push _)⟩ ⟨0, Nat.le_refl 0, setR_new_at (Heap.get?_push_of_some _ hS)⟩ fun s' c' hm hc' hS' => ?_
  obtain ⟨h', g2, d', tk', os'⟩ := s'
  have eg : g2 = s.gens := hm.gens
  have ed : d' = s.drawn := hm.drawn
  have eo : os' = s.os := hm.os
  subst eg; subst ed; subst eo
  refine ⟨rfl, h', tk', c', rfl, hS', fun b o e => ?_⟩
  have hb0 : b < s.heap.objs.size := Heap.lt_size e
  exact hm.heap b o (by rw [hz1]; simp only [List.mem_cons, List.mem_singleton, List.not_mem_nil, or_false, not_or]; exact ⟨Nat.ne_of_lt hb0, Nat.ne_of_lt (Nat.lt_succ_of_lt hb0)⟩) (Heap.get?_push_of_some _ (Heap.get?_push_of_some _ e))
set_option maxHeartbeats 3200000 in
theorem call_set_listI {l : Addr} {items : Array Value} (ns : List Int) {Q : Value → Shared → Prop} (hh : A.handled = none) (hl : s.heap.IsList l items) (hit : IntsAre items.toList ns) (hb : ns.length + 1 < scanBound)
    (h : ∀ s2, Made w s ns s2 → Q (.ref s.heap.objs.size) s2) : wpAny (model P w) A (call (.type "set") [.ref l]) Q E s := by
  obtain ⟨c, tl, hmro⟩ := F.called_set.mro
  have hmade := F.called_set.made
  have hsub := F.called_set.sub
  refine wpAny_call (codeAny_of_tree ?_)
  refine wpAny_pure ⟨Code.quiet_builtin _ (by decide +kernel), codeAny_builtin F.entry_type_call ?_⟩
  rw [Around.under_plain (weight_type_call_type "set" [.ref l] []) rfl]
  have h1 := F.called_set.notType
  have h2 := F.called_set.canCreate
  have hct := F.typeCall_set_1 (.ref l)
  repeat (any_goals (first | assumption | wp_step))
  refine codeAny_mono (code_set_led1 (.ref l) (E := E) (Q₁ := fun obj s₁ => obj = .ref s.heap.objs.size ∧ s₁ = { s with heap := s.heap.push (set0 w) }) ⟨rfl, rfl⟩) fun r s₁ hr => ?_
  cases r with
  | error e => exact hr
  | ok fl =>
    cases fl with
    | ret obj =>
      obtain ⟨rfl, rfl⟩ := hr
      have hT : Shared.TypeIs { s with heap := s.heap.push (set0 w) } (.ref s.heap.objs.size) "set" := ⟨_, Heap.get?_push_size _ rfl, rfl⟩
      have hli := F.called_set.init.lookup
      have hbi := F.called_set.init.bind (.ref s.heap.objs.size)
      repeat (any_goals (first | assumption | wp_step))
      refine codeAny_mono (codeAny_call_builtin (R := wants (fun r s₂ => r = .none ∧ Made w s ns s₂) E) F.called_set.init.plain F.entry_set_init (check_set_init_1 hT ?_)) fun r₂ s₂ hr₂ => ?_
      · have hl0 := hl
        obtain ⟨ol, hol, hcl, nl, hdl⟩ := hl
        obtain ⟨ocls, odict, odata, oslots⟩ := ol
        simp only at hcl hdl
        subst hcl; subst hdl
        have hol' := Heap.get?_push_of_some (set0 w) hol
        have hsls := F.sub_list_set
        have hslf := F.sub_list_frozenset
        have hne : (Value.type "list" == Value.type "dict") = false := by decide
        unfold Builtin.«set.__init__» noKeywords Builtin.Frozenset.updateFrom
        generalize hPI : pyIter = PI
        wp_walk
        subst hPI
        refine wpAny_pyIter_list (hl0.push _) ?_
        refine wpAny_bind (wpAny_runValue ?_)
        refine codeAny_mono (fill_list (E := E) (by simp [hh]) hl0 hit hb) fun r3 s3 hr3 => ?_
        cases r3 with
        | error e => exact hr3
        | ok fl3 =>
          cases fl3 with
          | ret r =>
            obtain ⟨rfl, m3⟩ := hr3
            show wpAny _ _ _ _ _ _
            refine wpAny_pure ?_
            show wpAny _ _ (ret Value.none) _ _ _
            exact wpAny_pure ⟨rfl, m3⟩
          | _ => exact hr3.elim
      · cases r₂ with
        | error e => exact hr₂
        | ok fl₂ =>
          cases fl₂ with
          | ret r =>
            obtain ⟨rfl, m2⟩ := hr₂
            repeat (any_goals (first | assumption | wp_step))
            exact h _ m2
          | _ => exact hr₂.elim
    | _ => exact hr.elim
end
end U

namespace U
/-- f is what closing for w makes of the values ns -/
def IsClo (w : Int) (ns : List Int) (f : Int → Int) : Prop :=
  (∀ m ∈ ns, (∀ x ∈ ns, m ≤ x) → f m = 0) ∧ ∀ a ∈ ns, ∀ b ∈ ns, a < b → (∀ c ∈ ns, c ≤ a ∨ b ≤ c) → f b = f a + min (b - a) (w + 1)
/-- the next lower one -/
def pre (ns : List Int) (v : Int) : Option Int := if ns.filter (fun x => decide (x < v)) = [] then none else some (-minL ((ns.filter fun x => decide (x < v)).map (- ·)))
theorem pre_none {ns : List Int} {v : Int} (h : pre ns v = none) : ∀ x ∈ ns, v ≤ x := fun x hx => by
  unfold pre at h
  split at h
  next e =>
    have := List.filter_eq_nil_iff.mp e x hx
    simp at this
    exact this
  · cases h
theorem pre_some {ns : List Int} {v a : Int} (h : pre ns v = some a) : a ∈ ns ∧ a < v ∧ ∀ c ∈ ns, c ≤ a ∨ v ≤ c := by
  unfold pre at h
  split at h
  · cases h
  next e =>
    cases h
    have hn : ((ns.filter fun x => decide (x < v)).map (- ·)) ≠ [] := fun z => e (List.map_eq_nil_iff.mp z)
    obtain ⟨y, hy, ey⟩ := List.mem_map.mp (minL_mem hn)
    have hy2 := List.mem_filter.mp hy
    have e2 : -minL ((ns.filter fun x => decide (x < v)).map (- ·)) = y := by rw [← ey]; omega
    rw [e2]
    refine ⟨hy2.1, by simpa using hy2.2, fun c hc => ?_⟩
    by_cases hv : c < v
    · left
      have := minL_le (List.mem_map_of_mem (f := (- ·)) (List.mem_filter.mpr ⟨hc, by simpa using hv⟩) : -c ∈ ((ns.filter fun x => decide (x < v)).map (- ·)))
      omega
    · right; omega
theorem pre_is {ns : List Int} {a v : Int} (ha : a ∈ ns) (h : a < v) (k : ∀ c ∈ ns, c ≤ a ∨ v ≤ c) : pre ns v = some a := by
  cases e : pre ns v with
  | none => have := pre_none e a ha; omega
  | some b =>
    obtain ⟨h1, h2, h3⟩ := pre_some e
    have := k b h1
    have := h3 a ha
    rw [show b = a by omega]
def cl (w : Int) (ns : List Int) : Nat → Int → Int
  | 0, _ => 0
  | n + 1, v => match pre ns v with
    | none => 0
    | some a => cl w ns n a + min (v - a) (w + 1)
theorem cl_fuel {w : Int} {ns : List Int} : ∀ (n m : Nat) (v : Int), v ∈ ns → (v - minL ns).toNat ≤ n → (v - minL ns).toNat ≤ m → cl w ns n v = cl w ns m v := by
  have hz : ∀ (m : Nat) (v : Int), v ∈ ns → (v - minL ns).toNat = 0 → cl w ns m v = 0 := fun m v hv h => by
    cases m with
    | zero => rfl
    | succ m =>
      unfold cl
      cases e : pre ns v with
      | none => rfl
      | some a =>
        obtain ⟨h1, h2, _⟩ := pre_some e
        have := minL_le h1
        omega
  intro n
  induction n with
  | zero => intro m v hv h1 h2; rw [hz 0 v hv (by omega), hz m v hv (by omega)]
  | succ n ih =>
    intro m v hv h1 h2
    cases m with
    | zero => rw [hz 0 v hv (by omega), hz _ v hv (by omega)]
    | succ m =>
      unfold cl
      cases e : pre ns v with
      | none => rfl
      | some a =>
        obtain ⟨g1, g2, _⟩ := pre_some e
        have := minL_le g1
        show cl w ns n a + _ = cl w ns m a + _
        rw [ih m a g1 (by omega) (by omega)]
def clo (w : Int) (ns : List Int) (v : Int) : Int := cl w ns (v - minL ns).toNat v
theorem clo_is (w : Int) (ns : List Int) : IsClo w ns (clo w ns) := by
  constructor
  · intro m hm h
    unfold clo
    have : (m - minL ns).toNat = 0 := by
      have := h _ (minL_mem (List.ne_nil_of_mem hm))
      omega
    rw [this]; rfl
  · intro a ha b hb h k
    have h1 := minL_le ha
    obtain ⟨n, hn⟩ : ∃ n, (b - minL ns).toNat = n + 1 := ⟨(b - minL ns).toNat - 1, by omega⟩
    have e : cl w ns (n + 1) b = cl w ns n a + min (b - a) (w + 1) := by
      show (match pre ns b with | none => (0 : Int) | some a => cl w ns n a + min (b - a) (w + 1)) = _
      rw [pre_is ha h k]
    show cl w ns _ b = cl w ns _ a + _
    rw [hn, e, cl_fuel n _ a ha (by omega) (Nat.le_refl _)]
theorem clo_uniq {w : Int} {ns : List Int} {f g : Int → Int} (hf : IsClo w ns f) (hg : IsClo w ns g) : ∀ (n : Nat) (v : Int), v ∈ ns → (v - minL ns).toNat ≤ n → f v = g v := by
  intro n
  induction n with
  | zero =>
    intro v hv h
    have k : ∀ x ∈ ns, v ≤ x := fun x hx => by have := minL_le hx; omega
    rw [hf.1 v hv k, hg.1 v hv k]
  | succ n ih =>
    intro v hv h
    cases e : pre ns v with
    | none => rw [hf.1 v hv (pre_none e), hg.1 v hv (pre_none e)]
    | some a =>
      obtain ⟨g1, g2, g3⟩ := pre_some e
      have := minL_le g1
      rw [hf.2 a g1 v hv g2 g3, hg.2 a g1 v hv g2 g3, ih a g1 (by omega)]
theorem clo_mono {w : Int} {ns : List Int} {f : Int → Int} (hf : IsClo w ns f) (hw : 0 ≤ w) : ∀ (n : Nat) (a b : Int), a ∈ ns → b ∈ ns → a < b → (b - minL ns).toNat ≤ n → f a < f b := by
  intro n
  induction n with
  | zero => intro a b ha hb h k; have := minL_le ha; omega
  | succ n ih =>
    intro a b ha hb h k
    cases e : pre ns b with
    | none => have := pre_none e a ha; omega
    | some c =>
      obtain ⟨g1, g2, g3⟩ := pre_some e
      have := minL_le g1
      have e1 := hf.2 c g1 b hb g2 g3
      have q := g3 a ha
      by_cases z : a = c
      · subst z; omega
      · have := ih a c ha g1 (by omega) (by omega)
        omega
theorem clo_range {w : Int} {ns : List Int} {f : Int → Int} (hf : IsClo w ns f) (hw : 0 ≤ w) : ∀ (n : Nat) (v : Int), v ∈ ns → (v - minL ns).toNat ≤ n → 0 ≤ f v ∧ f v ≤ v - minL ns := by
  intro n
  induction n with
  | zero =>
    intro v hv h
    have k : ∀ x ∈ ns, v ≤ x := fun x hx => by have := minL_le hx; omega
    have := minL_le hv
    rw [hf.1 v hv k]
    omega
  | succ n ih =>
    intro v hv h
    have := minL_le hv
    cases e : pre ns v with
    | none => rw [hf.1 v hv (pre_none e)]; omega
    | some a =>
      obtain ⟨g1, g2, g3⟩ := pre_some e
      have := minL_le g1
      have := ih a g1 (by omega)
      rw [hf.2 a g1 v hv g2 g3]
      omega
def cloR (w : Int) (ns : List Int) : List Int := ns.map (clo w ns)
theorem cloR_of {w : Int} {ns : List Int} {f : Int → Int} (hf : IsClo w ns f) : ns.map f = cloR w ns := List.map_congr_left fun v hv => clo_uniq hf (clo_is w ns) _ v hv (Nat.le_refl _)
theorem cloR_len (w : Int) (ns : List Int) : (cloR w ns).length = ns.length := by unfold cloR; rw [List.length_map]
theorem cloR_cloR {w w' : Int} {ns : List Int} (hw : 0 ≤ w) (h : w ≤ w') : cloR w' (cloR w ns) = cloR w ns := by
  have hf := clo_is w ns
  have mono : ∀ a b, a ∈ ns → b ∈ ns → clo w ns a < clo w ns b → a < b := fun a b ha hb q => by
    rcases Int.lt_trichotomy a b with z | z | z
    · exact z
    · subst z; omega
    · have := clo_mono hf hw _ b a hb ha z (Nat.le_refl _); omega
  have up : ∀ a b, a ∈ ns → b ∈ ns → a ≤ b → clo w ns a ≤ clo w ns b := fun a b ha hb q => by
    by_cases z : a = b
    · subst z; exact Int.le_refl _
    · have := clo_mono hf hw _ a b ha hb (by omega) (Nat.le_refl _); omega
  have k : IsClo w' (cloR w ns) id := by
    constructor
    · intro m hm h
      obtain ⟨v, hv, rfl⟩ := List.mem_map.mp hm
      have h1 := clo_range hf hw _ v hv (Nat.le_refl _)
      have h2 := h _ (List.mem_map_of_mem (minL_mem (List.ne_nil_of_mem hv)))
      have h3 : clo w ns (minL ns) = 0 := hf.1 _ (minL_mem (List.ne_nil_of_mem hv)) fun x hx => minL_le hx
      show clo w ns v = 0
      omega
    · intro a' ha b' hb hab hc
      obtain ⟨a, ha0, rfl⟩ := List.mem_map.mp ha
      have ha := ha0
      obtain ⟨b, hb0, rfl⟩ := List.mem_map.mp hb
      have hb := hb0
      have hl := mono a b ha hb hab
      have e := hf.2 a ha b hb hl fun c hc' => by
        rcases hc _ (List.mem_map_of_mem hc') with z | z
        · left
          by_cases q : c ≤ a
          · exact q
          · have := clo_mono hf hw _ a c ha hc' (by omega) (Nat.le_refl _); omega
        · right
          by_cases q : b ≤ c
          · exact q
          · have := clo_mono hf hw _ c b hc' hb (by omega) (Nat.le_refl _); omega
      show clo w ns b = clo w ns a + min (clo w ns b - clo w ns a) (w' + 1)
      omega
  rw [← cloR_of k, List.map_id]
theorem cloR_shift {w : Int} {ns : List Int} {k : Int} : cloR w (ns.map (· + k)) = cloR w ns := by
  have hf := clo_is w ns
  have q : IsClo w (ns.map (· + k)) (fun v => clo w ns (v - k)) := by
    constructor
    · intro m hm h
      obtain ⟨v, hv, rfl⟩ := List.mem_map.mp hm
      show clo w ns (v + k - k) = 0
      rw [Int.add_sub_cancel]
      exact hf.1 v hv fun x hx => by have := h _ (List.mem_map_of_mem hx); omega
    · intro a' ha b' hb hab hc
      obtain ⟨a, ha0, rfl⟩ := List.mem_map.mp ha
      have ha := ha0
      obtain ⟨b, hb0, rfl⟩ := List.mem_map.mp hb
      have hb := hb0
      show clo w ns (b + k - k) = clo w ns (a + k - k) + min (b + k - (a + k)) (w + 1)
      rw [Int.add_sub_cancel, Int.add_sub_cancel, hf.2 a ha b hb (by omega) fun c hc' => by have := hc _ (List.mem_map_of_mem hc'); omega]
      congr 2
      omega
  rw [← cloR_of q, List.map_map]
  exact List.map_congr_left fun v _ => by show clo w ns (v + k - k) = _; rw [Int.add_sub_cancel]
/-- the next one of an ascending list of the values -/
theorem clo_next {w : Int} {ns o : List Int} (hw : 0 ≤ w) (hm : ∀ x, x ∈ o ↔ x ∈ ns) (hs : o.Pairwise (· ≤ ·)) {i : Nat} {b c : Int} (hb : o[i]? = some b) (hc : o[i + 1]? = some c) : clo w ns c = clo w ns b + min (c - b) (w + 1) := by
  have at_ : ∀ {j k : Nat} {x y : Int}, o[j]? = some x → o[k]? = some y → j ≤ k → x ≤ y := fun {j k x y} hx hy h => by
    obtain ⟨h1, rfl⟩ := List.getElem?_eq_some_iff.mp hx
    obtain ⟨h2, rfl⟩ := List.getElem?_eq_some_iff.mp hy
    rcases Nat.lt_or_eq_of_le h with z | z
    · exact List.pairwise_iff_getElem.mp hs j k h1 h2 z
    · subst z; exact Int.le_refl _
  have hbc := at_ hb hc (by omega)
  have hbm := (hm b).mp (List.mem_of_getElem? hb)
  have hcm := (hm c).mp (List.mem_of_getElem? hc)
  by_cases z : b = c
  · subst z; omega
  · refine (clo_is w ns).2 b hbm c hcm (by omega) fun x hx => ?_
    obtain ⟨j, hj⟩ := List.mem_iff_getElem?.mp ((hm x).mpr hx)
    rcases Nat.lt_or_ge i j with q | q
    · exact .inr (at_ hc hj (by omega))
    · exact .inl (at_ hj hb (by omega))
theorem clo_first {w : Int} {ns o : List Int} (hm : ∀ x, x ∈ o ↔ x ∈ ns) (hs : o.Pairwise (· ≤ ·)) {b : Int} (hb : o[0]? = some b) : clo w ns b = 0 := by
  refine (clo_is w ns).1 b ((hm b).mp (List.mem_of_getElem? hb)) fun x hx => ?_
  obtain ⟨j, hj⟩ := List.mem_iff_getElem?.mp ((hm x).mpr hx)
  obtain ⟨h1, rfl⟩ := List.getElem?_eq_some_iff.mp hb
  obtain ⟨h2, rfl⟩ := List.getElem?_eq_some_iff.mp hj
  rcases Nat.eq_zero_or_pos j with z | z
  · subst z; exact Int.le_refl _
  · exact List.pairwise_iff_getElem.mp hs 0 j h1 h2 z
end U

namespace U
open PySem L2
open Evl (Ex fresh_back sz_of sz_lt sq_of st_of rLenS rListS)
section
variable {K : PySem.W.Frag} {σ : L2.St} {B B' H : Hp} {ta tb te tc tk tv : TE} {t : TT} {x y z d : Dt} {ds es : List Dt} {b : Bool} {D : Ends} {i j k l n : Nat} {ns ms : List Int} {tu : TS} {g : TG}
theorem R.eI_inv {v : V} (h : R B v (eI ns)) : ∃ p, v = .ref p ∧ B p = some (.lst (ns.map V.int)) := by
  obtain ⟨p, vs, rfl, hp, ra⟩ := h.lst_inv
  exact ⟨p, rfl, by rw [← ra.ints_inv]; exact hp⟩
theorem nodup_len : ∀ {ms ns : List Int}, ms.Nodup → (∀ x ∈ ms, x ∈ ns) → ms.length ≤ ns.length
  | [], _, _, _ => Nat.zero_le _
  | m :: ms, ns, nd, h => by
    have hm := h m List.mem_cons_self
    have nd2 := List.nodup_cons.mp nd
    have := nodup_len (ms := ms) (ns := ns.erase m) nd2.2 fun x hx => (List.mem_erase_of_ne (fun z => by subst z; exact nd2.1 hx)).mpr (h x (List.mem_cons_of_mem _ hx))
    have e := List.length_erase_of_mem hm
    have p := List.length_pos_of_mem hm
    rw [List.length_cons]
    omega
/-- q = sorted(e) -/
theorem s_sortedI {q : Nat} (e : Ex B H) (h : EvR ta σ B (eI ns)) (k : ∀ o v B1 H1, o.Perm ns → o.Pairwise (· ≤ ·) → New B H B1 H1 → R B1 v (eI o) → D.nx (σ.set q (some v)) H1) : tAsg (tCB (rSortedI K) (tCons ta tNil)) (gName q) D σ H :=
  h H e _ fun v B1 H1 n rv => by
    obtain ⟨p, rfl, hp⟩ := rv.eI_inv
    exact ⟨p, ns, rfl, sq_of (n.sub _ _ hp), fun o q hm hs hq => k o _ _ _ hm hs (n.trans (New.one n.sub hq)) (.lst upd_same (RA.ints o))⟩
/-- set(e) -/
def rSetL (w : World) (K : PySem.W.Frag) : List V → Hp → VK → Prop := fun vs H Q => ∃ (p : Addr) (ns : List Int), vs = [.ref p] ∧ SqL K H p (ns.map V.int) ∧ ns.length ≤ 1000 ∧
  ∀ (q : Addr) (ms : List Int), ms.Nodup → (∀ k, k ∈ ms ↔ k ∈ ns) → H q = none → Q (.ref q) (upd H q (SetO w q (fun j => decide (j ∈ ns)) ms.length))
theorem cr_setL {X : Cx} (hc : X.calm = true) : CallR X (.type "set") (rSetL X.w X.K) := by
  intro pins s σ H vs us Q I r h
  obtain ⟨p, ns, rfl, hs, hl, q⟩ := h
  obtain ⟨its, rv, pl, hz⟩ := I.list hs
  rw [Vals.ref1 r]
  refine call_set_listI (E := X.xe) ns (I.ok.hd hc) pl.isList (ints_of_vals (by simpa using rv)) (by unfold scanBound; omega) fun s2 m => ?_
  obtain ⟨h', tk, c, rfl, R1, kp⟩ := m
  have hn : H s.heap.objs.size = none := I.hok.fresh (Nat.le_refl _)
  have R2 := R1
  obtain ⟨o, es, ep, t, ho, hex, hdt, g, nd, hm, hb, hf, hc2, hr, hl2⟩ := R2
  have hcl : (es.toList.map keyOf).length = c := by rw [List.length_map, Array.length_toList]; exact hc2
  rw [← hcl] at R1
  exact ⟨.ref s.heap.objs.size, _, I.laid (t' := tk) kp (Nat.le_refl _) (setO_new R1), rfl, q _ _ nd (fun k => by rw [← hm k, decide_eq_true_eq]) hn⟩
theorem k_setL {X : Cx} {w : World} (h : X.K = K) (hw : X.w = w) (hc : X.calm = true) : CallR X (.type "set") (rSetL w K) := h ▸ hw ▸ cr_setL hc
theorem k_sortedSet {X : Cx} {w : World} (hw : X.w = w) (hc : X.calm = true) : CallR X (.builtin "sorted") (rSortedSet w) := hw ▸ cr_sortedSet hc
/-- q = sorted(set(e)) -/
theorem s_sortedS {q : Nat} {w : World} (e : Ex B H) (h : EvR ta σ B (eI ns)) (hl : ns.length < 64) (k : ∀ o v B1 H1, (∀ x, x ∈ o ↔ x ∈ ns) → o.Pairwise (· < ·) → New B H B1 H1 → R B1 v (eI o) → D.nx (σ.set q (some v)) H1) :
    tAsg (tCB (rSortedSet w) (tCons (tCB (rSetL w K) (tCons ta tNil)) tNil)) (gName q) D σ H :=
  h H e _ fun v B1 H1 n rv => by
    obtain ⟨p, rfl, hp⟩ := rv.eI_inv
    refine ⟨p, ns, rfl, sq_of (n.sub _ _ hp), by omega, fun q ms nd hm hq => ⟨q, _, _, rfl, upd_same, ?_, fun o p2 hs ho hlen hp2 => ?_⟩⟩
    · have := nodup_len nd fun x hx => (hm x).mp hx
      omega
    · have n1 : New B1 H1 B1 (upd H1 q (SetO w q (fun j => decide (j ∈ ns)) ms.length)) := New.grow (n.sub.trans (Ex.new hq)) (Ex.new hq) n.sub
      exact k o _ _ _ (fun x => by rw [ho x, decide_eq_true_eq]) hs (n.trans (n1.trans (New.one n1.sub hp2))) (.lst upd_same (RA.ints o))
/-- e[1:] -/
theorem cut1 : cutV (ns.map V.int) (some 1) none = (ns.drop 1).map V.int := by
  have e1 : HT.sIx (ns.map V.int).length 0 (some 1) = min 1 ns.length := by rw [List.length_map]; exact HT.sIx_nat _ _ 1
  have e2 : HT.sIx (ns.map V.int).length (ns.map V.int).length none = ns.length := by rw [HT.sIx_none, List.length_map]
  unfold cutV
  rw [e1, e2, List.take_of_length_le (by rw [List.length_drop, List.length_map]; omega)]
  cases ns with
  | nil => rfl
  | cons n ns => rw [show min 1 (n :: ns).length = 1 by rw [List.length_cons]; omega]; rfl
theorem ev_sl1 (h : EvR ta σ B (eI ns)) : EvR (tSl (rSlL K) ta (tPart (tC (.int 1))) tNoPart) σ B (eI (ns.drop 1)) := fun H1 e Q q =>
  h H1 e _ fun v B1 H2 n rv => by
    obtain ⟨p, rfl, hp⟩ := rv.eI_inv
    refine ⟨1, rfl, p, _, rfl, sq_of (n.sub _ _ hp), fun p2 hp2 => ?_⟩
    rw [cut1]
    exact q _ _ _ (n.trans (New.one n.sub hp2)) (.lst upd_same (RA.ints _))
/-- over zip of two lists of ints, the second one no longer -/
theorem s_zip (e : Ex B H) (ha : EvR ta σ B (eI ns)) (hb : EvR tb σ B (eI ms)) (hl : ms.length ≤ ns.length) (Pv : Hp → Hp → Nat → L2.St → Hp → Prop) (h0 : ∀ B1 H1, New B H B1 H1 → Pv B1 H1 0 σ H1) (hx : ∀ B1 H1 i σ' H', Pv B1 H1 i σ' H' → Ex B1 H')
    (hs : ∀ B1 H1 i x y T σ' H', New B H B1 H1 → ns[i]? = some x → ms[i]? = some y → Pv B1 H1 i σ' H' → H' T = none → g (.ref T) σ' (upd H' T (.tup [.int x, .int y])) fun σ2 H2 => tu { D with nx := Pv B1 H1 (i + 1), ct := Pv B1 H1 (i + 1), bk := D.nx } σ2 H2)
    (hd : ∀ B1 H1 σ' H', New B H B1 H1 → Pv B1 H1 ms.length σ' H' → D.nx σ' H') : tFor (RZ.iZipA K (tCons ta (tCons tb tNil))) g tu D σ H := ha H e _ fun v B1 H1 n rv => (hb.mono n.ext) H1 n.sub _ fun w B2 H2 n2 rw => by
  obtain ⟨p, rfl, hp⟩ := rv.eI_inv
  obtain ⟨q, rfl, hq⟩ := rw.eI_inv
  have hp2 := n2.ext _ _ hp
  have n3 := n.trans n2
  refine ⟨p, q, _, _, rfl, .inl ⟨sq_of (n3.sub _ _ hp2), sq_of (n3.sub _ _ hq), fun i m σ H => m = ms.length - i ∧ i ≤ ms.length ∧ Pv B2 H2 i σ H, ⟨ms.length, rfl, Nat.zero_le _, h0 B2 H2 n3⟩, ?_⟩⟩
  rintro i m σ' H' ⟨rfl, hi, pv⟩
  have e' := hx _ _ _ _ _ pv
  have qx : SqL K H' p (ns.map V.int) := sq_of (e' _ _ hp2)
  have qy : SqL K H' q (ms.map V.int) := sq_of (e' _ _ hq)
  by_cases hlt : i < ms.length
  · have hlt2 : i < ns.length := by omega
    have hx1 : (ns.map V.int)[i]? = some (.int ns[i]) := by rw [List.getElem?_map, List.getElem?_eq_getElem hlt2]; rfl
    have hy1 : (ms.map V.int)[i]? = some (.int ms[i]) := by rw [List.getElem?_map, List.getElem?_eq_getElem hlt]; rfl
    refine .inr ⟨⟨_, _, _, _, qx, qy, hx1, hy1⟩, Pv B2 H2 (i + 1), fun σ' H' p' => ⟨ms.length - (i + 1), by omega, rfl, hlt, p'⟩, fun v H'' y => ?_⟩
    obtain ⟨T, x', y', rfl, hT, rfl, f1, f2⟩ := y
    have e1 := (f1 _ qx).symm.trans hx1
    have e2 := (f2 _ qy).symm.trans hy1
    cases e1; cases e2
    exact hs B2 H2 i _ _ T σ' H' n3 (List.getElem?_eq_getElem hlt2) (List.getElem?_eq_getElem hlt) pv hT
  · have : i = ms.length := by omega
    subst this
    exact .inl ⟨⟨_, _, qx, qy, Or.inr (by rw [List.length_map]; exact Nat.le_refl _)⟩, hd _ _ _ _ n3 pv⟩
theorem g_tup2 {k' : L2.St → Hp → Prop} {a b : V} {T : Addr} (h : k' ((σ.set i (some a)).set j (some b)) (upd H T (.tup [a, b]))) : gTup K 2 (gCons (gName i) (gCons (gName j) gNil)) (.ref T) σ (upd H T (.tup [a, b])) k' :=
  ⟨T, _, rfl, st_of upd_same, rfl, _, _, rfl, _, _, rfl, rfl, h⟩
/-- a dict of one's own -/
structure OwnK (H0 B H : Hp) (p : Addr) (kvs : List (Key × V)) : Prop where
  h0 : H0 p = none
  b : B p = none
  h : H p = some (.dK kvs)
theorem New.giveK {B0 H0 B H : Hp} {p : Addr} {kvs : List (Key × V)} (n : New B0 H0 B H) (o : OwnK H0 B H p kvs) : New B0 H0 (upd B p (.dK kvs)) H := by
  refine ⟨n.ext.trans (Ex.new o.b), fun q u h => ?_, n.heap, fun q h1 h2 => ?_⟩
  · by_cases hq : q = p
    · subst hq; rw [upd_same] at h; cases h; exact o.h
    · rw [upd_ne hq] at h; exact n.sub q u h
  · rw [upd_ne (fun z => by subst z; exact h2 o.h0)]; exact n.fresh q h1 h2
/-- q = {a: b} -/
theorem s_disp {q : Nat} {a c : Int} (e : Ex B H) (hk : EvR tk σ B (.int a)) (hv : EvR tv σ B (.int c)) (k : ∀ p B1 H1, New B H B1 H1 → OwnK H B1 H1 p [(.inl a, .int c)] → D.nx (σ.set q (some (.ref p))) H1) : tAsg (tDisp [(tk, tv)]) (gName q) D σ H := fun p hp => by
  have hb := fresh_back e hp
  have e1 : Ex B (upd H p (.dK [])) := e.trans (Ex.new hp)
  refine hk _ e1 _ fun v B1 H1 n1 r1 => (hv.mono n1.ext) H1 n1.sub _ fun w B2 H2 n2 r2 => ?_
  cases r1; cases r2
  have n3 := n1.trans n2
  have b2 := n3.fresh p hb (by rw [upd_same]; simp)
  have h2 := n3.heap p _ upd_same
  refine ⟨h2, [(.inl a, .int c)], rfl, by simp, k p B2 _ ⟨n3.ext, Evl.Ex.mut n3.sub b2, ?_, fun x z1 z2 => n3.fresh x z1 fun z3 => ?_⟩ ⟨hp, b2, upd_same⟩⟩
  · exact Evl.Ex.mut ((Ex.new hp).trans n3.heap) hp
  · by_cases hx : x = p
    · subst hx; exact z2 hp
    · rw [upd_ne hx] at z3; exact z2 z3
/-- q[e], q a dict that is known -/
theorem ev_dget {p : Addr} {kvs : List (Key × V)} {a c : Int} (ho : σ[n]? = some (some (.ref p))) (hp : B p = some (.dK kvs)) (h : EvR te σ B (.int a)) (hv : valV kvs (.inl a) = some (.int c)) : EvR (tDGet (tVar n) te) σ B (.int c) := fun H1 e Q q =>
  ⟨_, ho, h H1 e _ fun v B2 H2 n2 r => by
    cases r
    exact ⟨p, _, rfl, by rw [← hv]; exact DGet.k (k := .inl a) (n2.sub _ _ (n2.ext _ _ hp)), q _ B2 H2 n2 (.int c)⟩⟩
/-- q[e] = f -/
theorem s_dput {p : Addr} {kvs : List (Key × V)} {a c : Int} {H0 : Hp} (e : Ex B H) (o : OwnK H0 B H p kvs) (ho : σ[n]? = some (some (.ref p))) (hv : EvR tv σ (upd B p (.dK kvs)) (.int c)) (hk : ∀ B1, Ex B B1 → EvR tk σ B1 (.int a)) (hl : kvs.length ≤ 1000)
    (k : ∀ H1, Ex B H1 → Ex H0 H → Ex H0 H1 → OwnK H0 B H1 p (putK kvs (.inl a) (.int c)) → D.nx σ H1) (h0 : Ex H0 H) : sDPut (tVar n) tk tv D σ H := by
  have eB : Ex (upd B p (.dK kvs)) H := fun q u h => by
    by_cases hq : q = p
    · subst hq; rw [upd_same] at h; cases h; exact o.h
    · rw [upd_ne hq] at h; exact e q u h
  have eb0 : Ex B (upd B p (.dK kvs)) := Ex.new o.b
  refine hv H eB _ fun v B1 H1 n1 r1 => ⟨_, ho, (hk B1 (eb0.trans n1.ext)) H1 n1.sub _ fun w B2 H2 n2 r2 => ?_⟩
  cases r1; cases r2
  have n3 := n1.trans n2
  have h2 := n3.heap _ _ o.h
  refine ⟨p, _, rfl, DPut.k (k := .inl a) h2 (sz_lt (by omega)), k _ (Evl.Ex.mut (e.trans n3.heap) o.b) h0 (Evl.Ex.mut (h0.trans n3.heap) o.h0) ⟨o.h0, o.b, upd_same⟩⟩
end
end U
namespace U
open PySem L2
section
variable {K : PySem.W.Frag}
theorem k_sortedI {X : Cx} (h : X.K = K) : CallR X (.builtin "sorted") (rSortedI K) := h ▸ cr_sortedI
theorem k_zip {X : Cx} {e e2 : Expr} {ta : TA} {p pos tpos : Pos} {elts : List Expr} {kk : Nat} (h : X.K = K) (hg : Gl X "zip") (hm : X.mg "zip" = none) (ha : PA X [e, e2] ta)
    (hs : starEach [e, e2] X.env = (false, eval e X.env) :: starEach [e2] X.env := by rfl) (hpl : (backTo pos (starEach [e2] X.env)).any (·.1) = false := by rfl) :
    PI X (.Tuple elts kk tpos) (.Call (.Name "zip" p) [e, e2] [] pos) (RZ.iZipA K ta) := h ▸ RZ.pi_zipA hg hm ha hs hpl
theorem k_index {X : Cx} (h : X.K = K) : MtR X "list.index" (rIndex K) := h ▸ mt_index
theorem unit1 {a b : Nat} (h : a + 64 < b) : a + 1 < b := Nat.lt_of_le_of_lt (Nat.add_le_add_left (by decide) _) h
end
end U

namespace U
open PySem L2
open Evl (Ex fresh_back sz_of sz_lt sq_of st_of rLenS rListS)
section
variable {K : PySem.W.Frag} {σ : L2.St} {B B' H : Hp} {te : TE} {tl : TA} {D : Ends} {i j n : Nat} {ns ms : List Int} {tu : TS}
theorem s_appI {H0 : Hp} {p : Addr} {a : Int} (e : Ex B H) (o : Own H0 B H p (ns.map V.int)) (hv : σ[n]? = some (some (.ref p))) (h : EvR te σ (upd B p (.lst (ns.map V.int))) (.int a)) (hz : ns.length < 100000) (h0 : Ex H0 H)
    (k : ∀ H1, Ex B H1 → Ex H0 H1 → Own H0 B H1 p ((ns ++ [a]).map V.int) → D.nx σ H1) : tDrop (tBM K "list" rAppend (tVar n) (tCons te tNil)) D σ H :=
  ⟨_, hv, .inl ⟨rfl, _, .inl (.inl o.h)⟩, h H (o.ex e) _ fun v B1 H1 nw rv => by
    cases rv
    refine ⟨p, _, .int a, rfl, rfl, nw.heap _ _ o.h, sz_lt (by rw [List.length_map]; exact hz), k _ (Evl.Ex.mut (e.trans nw.heap) o.b) (Evl.Ex.mut (h0.trans nw.heap) o.h0) ⟨o.h0, o.b, ?_⟩⟩
    rw [upd_same, List.map_append]; rfl⟩
theorem ev_lix {a : Int} {v : V} (hv : σ[n]? = some (some v)) (r : R B v (eI ns)) (h : EvR te σ B (.int a)) (hj : ns[j]? = some a) (hm : ∀ m, m < j → ns[m]? ≠ some a) : EvR (tBM K "list" (rIndex K) (tVar n) (tCons te tNil)) σ B (.int (j : Nat)) := fun H1 e Q q => by
  obtain ⟨p, rfl, hp⟩ := r.eI_inv
  refine ⟨_, hv, .inl ⟨rfl, _, .inl (.inl (e _ _ hp))⟩, h H1 e _ fun v B2 H2 n2 r2 => ?_⟩
  cases r2
  refine ⟨p, _, .int a, j, .int a, rfl, rfl, sq_of (n2.heap _ _ (e _ _ hp)), rfl, by simp [flatV], by rw [List.getElem?_map, hj]; rfl, by simp [eqV], fun m z hmj hz => ?_, q _ B2 H2 n2 (.int _)⟩
  rw [List.getElem?_map] at hz
  cases hx : ns[m]? with
  | none => rw [hx] at hz; cases hz
  | some y =>
    rw [hx] at hz; cases hz
    have : y ≠ a := fun z => hm m hmj (z ▸ hx)
    simp [eqV, this]
/-- over range(1, n) -/
theorem s_for1 {m : Nat} (e : Ex B H) (h : EvRA tl σ B [.int 1, .int (m : Int)]) (hn : m ≤ 1000000) (Pv : Nat → L2.St → Hp → Prop) (h0 : ∀ H1, Up B H H1 → Pv 0 σ H1)
    (hs : ∀ (i : Nat) σ' H', i + 1 < m → Pv i σ' H' → tu { D with nx := Pv (i + 1), ct := Pv (i + 1), bk := D.nx } (σ'.set j (some (.int ((i + 1 : Nat) : Int)))) H') (hd : ∀ σ' H', Pv (m - 1) σ' H' → D.nx σ' H') :
    tFor (iRng2 tl) (gName j) tu D σ H := h H e _ fun vs B1 H1 nw ra => by
  cases ra with | cons r1 ra =>
  cases ra with | cons r2 ra =>
  cases r1; cases r2; cases ra
  have em : ((m : Int) - 1).toNat = m - 1 := by omega
  refine ⟨1, (m : Int), rfl, ⟨by omega, by omega, by omega, by omega⟩, ?_⟩
  rw [em]
  refine for_range (lo := 1) (n := m - 1) Pv (h0 H1 ⟨e, e.trans nw.heap, nw.heap⟩) (fun i σ' H' hi q => ?_) hd
  have e0 : (1 : Int) + (i : Int) = ((i + 1 : Nat) : Int) := by omega
  rw [e0]
  exact hs i σ' H' (by omega) q
end
section
theorem k_bm {X : Cx} {K : PySem.W.Frag} (hK : X.K = K) {o e : Expr} {es : List Expr} {to : TE} {t : TA} {name : Str} {apos cpos : Pos} {T id : String} {r : V → List V → Hp → VK → Prop} (pa : PlainAttrs T) (slot : Slot T name id) (hty : typeOf (.builtin id) = pure (.type "method_descriptor")) (hm : MtR X id r) (ho : PE X o to) (ha : PA X (e :: es) t)
    (hbase : attributeBase o name X.env (eval o X.env) = eval o X.env := by rfl)
    (hfew : ((backTo cpos (starEach (e :: es) X.env)).all (fun x => !x.1) && (backToKw cpos (keywordEach [] X.env)).all (fun x => x.1.isSome)
      && decide ((e :: es).length + ([] : List Keyword).length + (if ([] : List Keyword).isEmpty then 0 else 1) < 30)) = true := by rfl)
    (hline : (apos.endLine == cpos.line) = true := by rfl) (hs : starEach (e :: es) X.env = (false, eval e X.env) :: starEach es X.env := by rfl) (hplain : (backTo cpos (starEach es X.env)).any (·.1) = false := by rfl) :
    PE X (.Call (.Attribute o name apos) (e :: es) [] cpos) (tBM K T r to t) := hK ▸ pe_bm pa slot hty hm ho ha hbase hfew hline hs hplain
end
end U

namespace U
open PySem L2
open Evl (Ex fresh_back sz_of sz_lt sq_of st_of rLenS rListS)
/-- J goes through the data ds, which stand in B1 -/
def Loop (J : It) (B1 : Hp) (ds : List Dt) : Prop := ∀ (S : V → Hp → (Hp → Prop) → Prop) (Fin : Hp → Prop) (Pv : Nat → Hp → Prop) (H4 : Hp), Ex B1 H4 → Pv 0 H4 →
  (∀ i d x H', Ex B1 H' → ds[i]? = some d → R B1 x d → Pv i H' → S x H' fun H2 => Ex B1 H2 ∧ Pv (i + 1) H2) → (∀ H', Ex B1 H' → Pv ds.length H' → Fin H') →
  ∃ W : Nat → Nat → Hp → Prop, (∃ m, W 0 m H4) ∧ ∀ j k H, W j k H → (J.stop j H ∧ Fin H) ∨ (J.go j H ∧ ∃ Nx : Hp → Prop, (∀ H', Nx H' → ∃ k', k' < k ∧ W (j + 1) k' H') ∧ ∀ x H', J.yld j H x H' → S x H' Nx)
def Goes (wi : TI) (σ : L2.St) (B : Hp) (ds : List Dt) : Prop := ∀ (H : Hp), Ex B H → ∀ Z : It → Hp → Prop, (∀ J B1 H1, New B H B1 H1 → Loop J B1 ds → Z J H1) → wi σ H Z
section
variable {K : PySem.W.Frag} {σ : L2.St} {B B' H : Hp} {ta te : TE} {tl : TA} {tt1 : TT} {wi wi1 : TI} {d : Dt} {ds es : List Dt} {j j1 : Nat}
theorem loop_of {J : It} {B1 : Hp} {us : List V} (ra : RA B1 us ds) (hstop : ∀ H', Ex B1 H' → J.stop us.length H') (hgo : ∀ H' i, Ex B1 H' → i < us.length → J.go i H') (hy : ∀ i H' x H2, i < us.length → Ex B1 H' → J.yld i H' x H2 → H2 = H' ∧ us[i]? = some x) : Loop J B1 ds := fun S Fin Pv H4 e4 h0 hs hd => by
  have hl := ra.len
  refine ⟨fun i m H' => m = us.length - i ∧ i ≤ us.length ∧ Ex B1 H' ∧ Pv i H', ⟨us.length, rfl, Nat.zero_le _, e4, h0⟩, ?_⟩
  rintro i m H' ⟨rfl, hi, e1, pv⟩
  by_cases hlt : i < us.length
  · refine .inr ⟨hgo H' i e1 hlt, fun H2 => Ex B1 H2 ∧ Pv (i + 1) H2, fun H2 z => ⟨us.length - (i + 1), by omega, rfl, hlt, z⟩, fun x H2 y => ?_⟩
    obtain ⟨ee, y2⟩ := hy i _ _ _ hlt e1 y
    subst ee
    obtain ⟨dd, hd', rd⟩ := ra.getV y2
    exact hs i dd x _ e1 hd' rd pv
  · have : i = us.length := by omega
    subst this
    exact .inl ⟨hstop _ e1, hd _ e1 (by rw [← hl]; exact pv)⟩
theorem goes_seq (h : EvR ta σ B d) (it : Items d ds) : Goes (iSeq K ta) σ B ds := fun H e Z z => h H e _ fun v B1 H1 n rv => by
  cases it with
  | lst =>
    obtain ⟨p, us, rfl, hp, ra⟩ := rv.lst_inv
    have q : ∀ H', Ex B1 H' → SqL K H' p us := fun H' e => sq_of (e _ _ hp)
    refine ⟨p, rfl, .inl ⟨⟨us, q _ n.sub⟩, z _ B1 H1 n (loop_of ra (fun H' e => ⟨us, q _ e, Nat.le_refl _⟩) (fun H' i e hi => ⟨us, us[i], q _ e, List.getElem?_eq_getElem hi⟩) fun i H' x H2 _ e y => ⟨y.1, y.2 us (q _ e)⟩)⟩⟩
  | tup =>
    obtain ⟨p, us, rfl, hp, ra⟩ := rv.tup_inv
    have q : ∀ H', Ex B1 H' → SqT K H' p us := fun H' e => st_of (e _ _ hp)
    refine ⟨p, rfl, .inr ⟨⟨us, q _ n.sub⟩, z _ B1 H1 n (loop_of ra (fun H' e => ⟨us, q _ e, Nat.le_refl _⟩) (fun H' i e hi => ⟨us, us[i], q _ e, List.getElem?_eq_getElem hi⟩) fun i H' x H2 _ e y => ⟨y.1, y.2 us (q _ e)⟩)⟩⟩
theorem ra_rng : ∀ (l : List Nat), RA B (l.map fun i => V.int (i : Nat)) (l.map fun i => Dt.int (i : Nat))
  | [] => .nil
  | _ :: l => .cons (.int _) (ra_rng l)
theorem goes_rng {n : Int} (h : EvRA tl σ B [.int n]) (hn : 0 ≤ n ∧ n < 1000000) : Goes (iRng1 tl) σ B ((List.range n.toNat).map fun i => Dt.int (i : Nat)) := fun H e Z z => h H e _ fun v B1 H1 nw ra => by
  cases ra with | cons r1 ra =>
  cases r1; cases ra
  have hl : ((List.range n.toNat).map fun i => V.int (i : Nat)).length = n.toNat := by rw [List.length_map, List.length_range]
  refine ⟨n, rfl, by omega, by omega, z _ B1 H1 nw (loop_of (us := (List.range n.toNat).map fun i => V.int (i : Nat)) (ra_rng _) (fun H' e => ?_) (fun H' i e hi => ?_) fun i H' x H2 hi e y => ?_)⟩
  · exact Nat.le_of_eq hl.symm
  · rw [hl] at hi; exact hi
  · obtain ⟨y1, y2⟩ := y
    rw [hl] at hi
    refine ⟨y1, ?_⟩
    rw [y2, List.getElem?_map, List.getElem?_range hi, Int.zero_add]
    rfl
/-- a comprehension with two fors -/
theorem el_lc2 {α β : Type} {l : List α} {enc : α → Dt} {ms : α → List β} {enc1 : β → Dt} {c : α → β → Bool} {f : α → β → Dt} {vs vs1 : List Nat} (ho : Goes wi σ B (l.map enc)) (hz : (l.flatMap fun a => ((ms a).filter (c a)).map (f a)).length < 100000)
    (hw : ∀ x, wipe ((wipe σ vs).set j (some x)) vs = wipe σ vs) (hw1 : ∀ x y, wipe ((wipe ((wipe σ vs).set j (some x)) vs1).set j1 (some y)) vs1 = wipe ((wipe σ vs).set j (some x)) vs1)
    (hi : ∀ a v B1, a ∈ l → Ex B B1 → R B1 v (enc a) → Goes wi1 ((wipe σ vs).set j (some v)) B1 ((ms a).map enc1))
    (ht : ∀ a v b u B1, a ∈ l → b ∈ ms a → Ex B B1 → R B1 v (enc a) → R B1 u (enc1 b) → EvC tt1 ((wipe ((wipe σ vs).set j (some v)) vs1).set j1 (some u)) B1 (c a b))
    (he : ∀ a v b u B1, a ∈ l → b ∈ ms a → Ex B B1 → R B1 v (enc a) → R B1 u (enc1 b) → c a b = true → EvR te ((wipe ((wipe σ vs).set j (some v)) vs1).set j1 (some u)) B1 (f a b)) :
    EvL (tLc2 wi (gName j) tYes wi1 (gName j1) tt1 te vs vs1) σ B (l.flatMap fun a => ((ms a).filter (c a)).map (f a)) := fun H0 e0 Q k => ho H0 e0 _ fun J B1 H1 n lp D hD => by
  have acc0 : ∀ i, ((l.take i).flatMap fun a => ((ms a).filter (c a)).map (f a)).length ≤ (l.flatMap fun a => ((ms a).filter (c a)).map (f a)).length := fun i => by
    conv => rhs; rw [← List.take_append_drop i l, List.flatMap_append, List.length_append]
    omega
  refine lp (fun x H' N => gName j x (wipe σ vs) H' fun σ2 H2 => wipe σ2 vs = wipe σ vs ∧ tYes σ2 H2 fun b H3 => if b = true then _ else N H3) _ (fun i H' => ∃ B' acc, New B1 H1 B' H' ∧ Own H1 B' H' D acc ∧ RA B' acc ((l.take i).flatMap fun a => ((ms a).filter (c a)).map (f a))) (upd H1 D (.lst [])) (n.sub.trans (Evl.Ex.new hD)) ?_ ?_ ?_
  · exact ⟨B1, [], ⟨Evl.Ex.refl _, Evl.Ex.mut n.sub (fresh_back n.sub hD), Evl.Ex.new hD, fun _ h _ => h⟩, ⟨hD, fresh_back n.sub hD, upd_same⟩, .nil⟩
  · rintro i d x H' e1 hd rx ⟨B', acc, n', o, ra⟩
    rw [List.getElem?_map] at hd
    cases hq : l[i]? with
    | none => rw [hq] at hd; cases hd
    | some a =>
    rw [hq] at hd; cases hd
    have hm := List.mem_of_getElem? hq
    refine ⟨hw x, ?_⟩
    have bD : B1 D = none := fresh_back n.sub hD
    refine (hi a x B' hm (n.ext.trans n'.ext) (rx.mono n'.ext)) H' n'.sub _ fun J1 B2 H2 n2 lp1 => ?_
    have b2D : B2 D = none := n2.fresh D o.b (by rw [o.h]; simp)
    refine lp1 (fun y H'' N => gName j1 y (wipe ((wipe σ vs).set j (some x)) vs1) H'' fun σ3 H5 => wipe σ3 vs1 = wipe ((wipe σ vs).set j (some x)) vs1 ∧ tt1 σ3 H5 fun b H6 => if b = true then te σ3 H6 fun y H7 => ∃ acc, H7 D = some (.lst acc) ∧ acc.length < sizeLine ∧ N (upd H7 D (.lst (acc ++ [y]))) else N H6) _
      (fun i2 H'' => ∃ B3 acc, Ex B2 B3 ∧ New B1 H1 B3 H'' ∧ Own H1 B3 H'' D acc ∧ RA B3 acc (((l.take i).flatMap fun a => ((ms a).filter (c a)).map (f a)) ++ (((ms a).take i2).filter (c a)).map (f a))) H2 n2.sub ?_ ?_ ?_
    · exact ⟨B2, acc, Evl.Ex.refl _, n'.trans n2, o.step n2, by rw [List.take_zero]; show RA B2 acc (_ ++ []); rw [List.append_nil]; exact ra.mono n2.ext⟩
    · rintro i2 d2 u H'' e2 hd2 ru ⟨B3, acc3, e23, n3, o3, ra3⟩
      rw [List.getElem?_map] at hd2
      cases hq2 : (ms a)[i2]? with
      | none => rw [hq2] at hd2; cases hd2
      | some b =>
      rw [hq2] at hd2; cases hd2
      have hmb := List.mem_of_getElem? hq2
      refine ⟨hw1 x u, ?_⟩
      refine ht a x b u B3 hm hmb (n.ext.trans n3.ext) (rx.mono n3.ext) (ru.mono e23) H'' n3.sub _ fun H6 e6 => ?_
      have n36 : New B3 H'' B3 H6 := New.grow (n3.sub.trans e6) e6 n3.sub
      have hs := outs_step (c := c a) (f := f a) hq2
      have len : (((l.take i).flatMap fun a => ((ms a).filter (c a)).map (f a)) ++ (((ms a).take i2).filter (c a)).map (f a)).length < 100000 := by
        have h1 := acc0 (i + 1)
        rw [List.take_add_one, hq, List.flatMap_append, List.length_append] at h1
        have h2 := ((List.take_sublist i2 (ms a)).filter (c a)).length_le
        have h3 : ((some a).toList.flatMap fun a => ((ms a).filter (c a)).map (f a)).length = ((ms a).filter (c a)).length := by simp
        rw [h3] at h1
        rw [List.length_append, List.length_map]
        omega
      cases hc : c a b with
      | true =>
        rw [hc, if_pos rfl] at hs
        show te _ H6 _
        refine he a x b u B3 hm hmb (n.ext.trans n3.ext) (rx.mono n3.ext) (ru.mono e23) hc H6 n36.sub _ fun w B4 H7 n4 rw' => ?_
        have o4 := (o3.step n36).step n4
        refine ⟨acc3, o4.h, sz_lt (by rw [ra3.len]; exact len), Evl.Ex.mut (e23.trans (n4.ext.trans n4.sub)) b2D, B4, acc3 ++ [w], e23.trans n4.ext, (((n3.trans n36).trans n4).put o4), o4.put, ?_⟩
        rw [hs, ← List.append_assoc]
        exact (ra3.mono n4.ext).append (RA.one rw')
      | false =>
        rw [hc, if_neg (by simp)] at hs
        exact ⟨e23.trans n36.sub, B3, acc3, e23, n3.trans n36, o3.step n36, by rw [hs]; exact ra3⟩
    · rintro H'' e2 ⟨B3, acc3, e23, n3, o3, ra3⟩
      refine ⟨n3.ext.trans n3.sub, B3, acc3, n3, o3, ?_⟩
      rw [List.length_map, List.take_length] at ra3
      rw [List.take_add_one, hq, List.flatMap_append]
      have h3 : ((some a).toList.flatMap fun a => ((ms a).filter (c a)).map (f a)) = ((ms a).filter (c a)).map (f a) := by simp
      rw [h3]
      exact ra3
  · rintro H' e1 ⟨B', acc, n', o, ra⟩
    rw [List.length_map, List.take_length] at ra
    exact k D acc B' H' (n.trans n') ⟨fresh_back n.heap o.h0, o.b, o.h⟩ ra
end
end U

namespace U
open PySem L2
open Evl (Ex fresh_back sz_of sz_lt sq_of st_of rLenS rListS)
section
variable {K : PySem.W.Frag} {σ : L2.St} {B B' H : Hp} {te : TE} {tl : TA} {ds es : List Dt} {ns : List Int}
theorem ea_star (h : EvR te σ B (.lst ds)) (hr : EvRA tl σ B es) : EvRA (StX.tStar K te tl) σ B (ds ++ es) := fun H1 e Q q => h H1 e _ fun v B2 H2 n rv => by
  obtain ⟨p, us, rfl, hp, ra⟩ := rv.lst_inv
  refine ⟨p, us, rfl, .inr (sq_of (n.sub _ _ hp)), (hr.mono n.ext) H2 n.sub _ fun ws B3 H3 n3 rb => q _ B3 H3 (n.trans n3) ((ra.mono n3.ext).append rb)⟩
theorem ea_starT (h : EvR te σ B (.tup ds)) (hr : EvRA tl σ B es) : EvRA (StX.tStar K te tl) σ B (ds ++ es) := fun H1 e Q q => h H1 e _ fun v B2 H2 n rv => by
  obtain ⟨p, us, rfl, hp, ra⟩ := rv.tup_inv
  refine ⟨p, us, rfl, .inl (st_of (n.sub _ _ hp)), (hr.mono n.ext) H2 n.sub _ fun ws B3 H3 n3 rb => q _ B3 H3 (n.trans n3) ((ra.mono n3.ext).append rb)⟩
theorem rl_sum : RL (rSum K) [eI ns] (.int ns.sum) := fun B H1 vs e ra Q q => by
  cases ra with | cons r1 r2 =>
  cases r2
  obtain ⟨p, rfl, hp⟩ := r1.eI_inv
  exact ⟨p, ns, rfl, sq_of (e _ _ hp), q _ B H1 (New.refl e) (.int _)⟩
theorem k_star {X : Cx} {e : Expr} {es : List Expr} {p : Pos} {te : TE} {t : TA} (h : X.K = K) (he : PE X e te) (hr : PA X es t) (hs : starEach (.Starred e p :: es) X.env = (true, eval e X.env) :: starEach es X.env := by rfl) : PA X (.Starred e p :: es) (StX.tStar K te t) := h ▸ StX.pa_star he hr hs
theorem k_sum {X : Cx} (h : X.K = K) (hc : X.calm = true) : CallR X (.builtin "sum") (rSum K) := h ▸ cr_sum hc
end
section
variable {B : Hp} {d : Dt}
def isN : Dt → Bool
  | .non => true
  | _ => false
theorem R.isN_eq {v : V} (r : R B v d) : decide (v = .non) = isN d := by
  cases r <;> simp [isN]
theorem rv_isN : RV (fun x y H Q => y = .non ∧ Q (.bl (decide (x = .non))) H) d .non (.bl (isN d)) := fun B H1 v w e r1 r2 Q q => by
  cases r2
  refine ⟨rfl, ?_⟩
  rw [r1.isN_eq]
  exact q _ B H1 (New.refl e) (.bl _)
theorem rv_notN : RV (fun x y H Q => y = .non ∧ Q (.bl (!decide (x = .non))) H) d .non (.bl (!isN d)) := fun B H1 v w e r1 r2 Q q => by
  cases r2
  refine ⟨rfl, ?_⟩
  rw [r1.isN_eq]
  exact q _ B H1 (New.refl e) (.bl _)
end
section
variable {K : PySem.W.Frag} {σ : L2.St} {B : Hp} {te : TE} {ns : List Int}
theorem ev_lenSet (h : EvR te σ B (eI ns)) (hn : ns.Nodup) (hl : ns.length ≤ 4000) : EvR (RZ.tLenSetI K te) σ B (.int (ns.length : Nat)) := fun H1 e Q q => h H1 e _ fun v B2 H2 n r => by
  obtain ⟨p, rfl, hp⟩ := r.eI_inv
  exact ⟨p, ns, rfl, sq_of (n.sub _ _ hp), hn, hl, q _ B2 H2 n (.int _)⟩
theorem k_lenSet {X : Cx} {a : Expr} {ta : TE} {p p2 q pos : Pos} (h : X.K = K) (hg : Gl X "len") (hm : X.mg "len" = none) (hg2 : Gl X "set") (hm2 : X.mg "set" = none) (ha : PE X a ta) (hc : X.calm = true := by rfl)
    (na : starEach [a] X.env = (false, eval a X.env) :: starEach [] X.env := by rfl) : PE X (.Call (.Name "len" p) [.Call (.Name "set" p2) [a] [] q] [] pos) (RZ.tLenSetI K ta) := h ▸ RZ.pe_lenSetI hg hm hg2 hm2 ha hc na
end
end U

namespace U
open PySem L2
open Evl (Ex fresh_back sz_of sz_lt sq_of st_of rLenS rListS)
def rIns : V → List V → Hp → VK → Prop := fun x vs H Q => ∃ (l : Addr) (xs : List V) (i : Int) (y : V), x = .ref l ∧ vs = [.int i, y] ∧ H l = some (.lst xs) ∧ xs.length < sizeLine ∧ 0 ≤ i ∧ i < 2 ^ 63 ∧ Q .non (upd H l (.lst (xs.take i.toNat ++ [y] ++ xs.drop i.toNat)))
theorem mt_ins {X : Cx} : MtR X "list.insert" rIns := mt_insert
section
variable {K : PySem.W.Frag} {σ : L2.St} {B B' H : Hp} {ta tb te : TE} {tl tl2 : TA} {d : Dt} {ds : List Dt} {D : Ends} {i j n t : Nat} {ns ms : List Int}
theorem rv_eqB {a b : Bool} : RV rEq (.bl a) (.bl b) (.bl (decide (a = b))) := fun B H1 v w e r1 r2 Q q => by
  cases r1; cases r2
  exact ⟨rfl, q _ B H1 (New.refl e) (by have : decide (V.bl a = V.bl b) = decide (a = b) := by simp
                                        rw [this]; exact .bl _)⟩
theorem rv_neB {a b : Bool} : RV rNe (.bl a) (.bl b) (.bl (!decide (a = b))) := fun B H1 v w e r1 r2 Q q => by
  cases r1; cases r2
  exact ⟨rfl, q _ B H1 (New.refl e) (by have : decide (V.bl a = V.bl b) = decide (a = b) := by simp
                                        rw [this]; exact .bl _)⟩
theorem cutTo (vs : List V) (m : Int) (h : 0 ≤ m) : cutV vs none (some m) = vs.take m.toNat := by
  obtain ⟨k, rfl⟩ := Int.eq_ofNat_of_zero_le h
  have e1 : HT.sIx vs.length 0 none = 0 := HT.sIx_none _ _
  have e2 : HT.sIx vs.length vs.length (some (k : Int)) = min k vs.length := HT.sIx_nat _ _ k
  unfold cutV
  rw [e1]
  show ((vs.drop 0).take (HT.sIx vs.length vs.length (some (k : Int)) - 0)) = _
  rw [e2, List.drop_zero, Nat.sub_zero, Int.toNat_natCast]
  by_cases h : k ≤ vs.length
  · rw [Nat.min_eq_left h]
  · rw [Nat.min_eq_right (by omega), List.take_of_length_le (Nat.le_refl _), List.take_of_length_le (by omega)]
theorem RA.take {B : Hp} : ∀ {vs : List V} {ds : List Dt} (k : Nat), RA B vs ds → RA B (vs.take k) (ds.take k)
  | _, _, 0, _ => by rw [List.take_zero, List.take_zero]; exact .nil
  | _, _, _ + 1, .nil => .nil
  | _, _, k + 1, .cons a b => .cons a (RA.take k b)
theorem RA.drop {B : Hp} : ∀ {vs : List V} {ds : List Dt} (k : Nat), RA B vs ds → RA B (vs.drop k) (ds.drop k)
  | _, _, 0, h => h
  | _, _, _ + 1, .nil => .nil
  | _, _, k + 1, .cons a b => RA.drop k b
theorem ev_slTo {m : Int} (h : EvR ta σ B (.lst ds)) (hi : EvR tb σ B (.int m)) (h0 : 0 ≤ m) : EvR (tSl (rSlL K) ta tNoPart (tPart tb)) σ B (.lst (ds.take m.toNat)) := fun H1 e Q q =>
  h H1 e _ fun v B1 H2 n rv => (hi.mono n.ext) H2 n.sub _ fun w B2 H3 n2 rw => by
    obtain ⟨p, vs, rfl, hp, ra⟩ := rv.lst_inv
    have hp2 := n2.ext _ _ hp
    refine ⟨m, rw.int_inv, p, vs, rfl, sq_of (n2.sub _ _ hp2), fun p2 hp3 => ?_⟩
    rw [cutTo vs m h0]
    exact q _ (upd B2 p2 (.lst (vs.take m.toNat))) _ ((n.trans n2).trans (New.one n2.sub hp3)) (.lst upd_same (((ra.mono n2.ext).take _).mono (Evl.Ex.new (fresh_back n2.sub hp3))))
theorem el_slTo {m : Int} {es : List Dt} (h : EvR ta σ B (.lst ds)) (hi : EvR tb σ B (.int m)) (h0 : 0 ≤ m) (he : ds.take m.toNat = es) : EvL (tSl (rSlL K) ta tNoPart (tPart tb)) σ B es := fun H1 e Q q =>
  h H1 e _ fun v B1 H2 n rv => (hi.mono n.ext) H2 n.sub _ fun w B2 H3 n2 rw => by
    obtain ⟨p, vs, rfl, hp, ra⟩ := rv.lst_inv
    have hp2 := n2.ext _ _ hp
    refine ⟨m, rw.int_inv, p, vs, rfl, sq_of (n2.sub _ _ hp2), fun p2 hp3 => ?_⟩
    rw [cutTo vs m h0]
    have N := n.trans n2
    refine q p2 (vs.take m.toNat) B2 _ ⟨N.ext, Evl.Ex.mut N.sub (fresh_back N.sub hp3), Evl.Ex.mut N.heap (fresh_back N.heap hp3), N.fresh⟩ ⟨fresh_back N.heap hp3, fresh_back N.sub hp3, upd_same⟩ ?_
    rw [← he]
    exact (ra.mono n2.ext).take _
theorem el_lcR1' {n : Int} {f : Nat → Dt} {es : List Dt} {vs : List Nat} (h : EvRA tl σ B [.int n]) (hz : 0 ≤ n ∧ n < 100000) (hw : ∀ x, wipe ((wipe σ vs).set j (some x)) vs = wipe σ vs)
    (he : ∀ (q : Nat) B1, (q : Int) < n → Ex B B1 → EvR ta ((wipe σ vs).set j (some (.int (q : Int)))) B1 (f q)) (hs : (List.range n.toNat).map f = es) : EvL (tLc (iRng1 tl) (gName j) tYes ta vs) σ B es := hs ▸ el_lcR1 h hz hw he
theorem rl_intB {b : Bool} : RL rInt1 [.bl b] (.int (if b = true then 1 else 0)) := fun B H1 vs e ra Q q => by
  cases ra with | cons r1 r2 =>
  cases r1; cases r2
  exact .inr ⟨b, rfl, q _ B H1 (New.refl e) (.int _)⟩
theorem map_erase (k : Nat) : ∀ (l : List Int), (l.map V.int).eraseIdx k = (l.eraseIdx k).map V.int := by
  intro l
  induction l generalizing k with
  | nil => rfl
  | cons x l ih =>
    cases k with
    | zero => rfl
    | succ k => rw [List.map_cons, List.eraseIdx_cons_succ, ih, List.eraseIdx_cons_succ, List.map_cons]
/-- x = [p.pop(e) for j in range(m)], p a list of ints of one's own -/
theorem s_pops {B0 H0 : Hp} {p : Addr} {m : Nat} {nn : Nat} {vs : List Nat} {fP : Nat → List Int} {ix : Nat → Nat} (n0 : New B0 H0 B H) (o : Own H0 B H p ((fP 0).map V.int)) (h : EvRA tl σ B [.int (m : Int)]) (hm : m < 100000)
    (hn : ∀ k : Nat, ((wipe σ vs).set j (some (.int (k : Int))))[nn]? = some (some (.ref p))) (hw : ∀ x, wipe ((wipe σ vs).set j (some x)) vs = wipe σ vs)
    (ha : ∀ (k : Nat) B1, k < m → Ex B B1 → R B1 (.ref p) (eI (fP k)) → EvRA tl2 ((wipe σ vs).set j (some (.int (k : Int)))) B1 [.int (ix k : Nat)])
    (hix : ∀ k, k < m → ix k < (fP k).length ∧ ix k < 1000 ∧ fP (k + 1) = (fP k).eraseIdx (ix k))
    (go : ∀ q B1 H1, New B0 H0 B1 H1 → Ex B B1 → R B1 (.ref q) (eI ((List.range m).map fun k => (fP k).getD (ix k) 0)) → D.nx (σ.set t (some (.ref q))) H1) :
    tAsg (tLc (iRng1 tl) (gName j) tYes (tBM K "list" rPopAt (tVar nn) tl2) vs) (gName t) D σ H := h H n0.sub _ fun us B1 H1 n1 rv => by
  cases rv with | cons r1 rv =>
  cases r1; cases rv
  refine ⟨(m : Int), rfl, by omega, by omega, fun q hq => ?_⟩
  have o1 := o.step n1
  have hpq : p ≠ q := fun z => by subst z; rw [o1.h] at hq; cases hq
  have N1 := n0.trans n1
  refine lc_range (lo := 0) (n := m) (fun i H' => ∃ B', New B0 H0 B' H' ∧ Ex B1 B' ∧ H' p = some (.lst ((fP i).map V.int)) ∧ H0 p = none ∧ B' p = none ∧ H0 q = none ∧ B' q = none ∧ H' q = some (.lst (((List.range i).map fun k => (fP k).getD (ix k) 0).map V.int))) ?_ (fun i H' hi z => ?_) (fun H' z => ?_)
  · have hq0 := fresh_back N1.heap hq
    have hqb := fresh_back N1.sub hq
    exact ⟨B1, ⟨N1.ext, Evl.Ex.mut N1.sub hqb, Evl.Ex.mut N1.heap hq0, N1.fresh⟩, Evl.Ex.refl _, by rw [upd_ne hpq]; exact o1.h, o.h0, o1.b, hq0, hqb, upd_same⟩
  · obtain ⟨B', N', e', hp, hp0, hpb, hq0, hqb, hqv⟩ := z
    rw [Int.zero_add]
    obtain ⟨x1, x2, x3⟩ := hix i hi
    refine ⟨hw _, ?_⟩
    have op : Own H0 B' H' p ((fP i).map V.int) := ⟨hp0, hpb, hp⟩
    refine ⟨_, hn i, .inl ⟨rfl, _, .inl (.inl hp)⟩, (ha i _ hi ((n1.ext.trans e').trans (Evl.Ex.new hpb)) (.lst upd_same (RA.ints _))) H' (op.ex N'.sub) _ fun ws B3 H3 n3 rw => ?_⟩
    cases rw with | cons r1 rw =>
    cases r1; cases rw
    have hp3 := n3.heap _ _ hp
    have hq3 := n3.heap _ _ hqv
    refine ⟨p, _, (ix i : Nat), ix i, .int ((fP i).getD (ix i) 0), rfl, rfl, hp3, by omega, by omega, ?_, ?_, ((List.range i).map fun k => (fP k).getD (ix k) 0).map V.int, ?_, ?_, B', ?_, e', ?_, hp0, hpb, hq0, hqb, ?_⟩
    · unfold seqIndex?
      rw [List.length_map]
      show (if (decide (0 ≤ (if ((ix i : Nat) : Int) < 0 then ((ix i : Nat) : Int) + ((fP i).length : Nat) else ((ix i : Nat) : Int))) && decide ((if ((ix i : Nat) : Int) < 0 then ((ix i : Nat) : Int) + ((fP i).length : Nat) else ((ix i : Nat) : Int)) < ((fP i).length : Nat))) = true then some (Int.toNat (if ((ix i : Nat) : Int) < 0 then ((ix i : Nat) : Int) + ((fP i).length : Nat) else ((ix i : Nat) : Int))) else none) = some (ix i)
      rw [if_neg (show ¬ ((ix i : Nat) : Int) < 0 by omega), decide_eq_true (by omega), decide_eq_true (by omega)]
      simp
    · rw [List.getElem?_map, List.getD_eq_getElem?_getD, List.getElem?_eq_getElem x1]; rfl
    · rw [upd_ne (Ne.symm hpq)]; exact hq3
    · rw [List.length_map, List.length_map, List.length_range]; exact sz_lt (by omega)
    · have N3 : New B0 H0 B' H3 := N'.trans (New.grow (N'.sub.trans n3.heap) n3.heap N'.sub)
      exact ⟨N3.ext, Evl.Ex.mut (Evl.Ex.mut N3.sub hpb) hqb, Evl.Ex.mut (Evl.Ex.mut N3.heap hp0) hq0, N3.fresh⟩
    · rw [upd_ne hpq, upd_same, map_erase, x3]
    · rw [upd_same, List.range_succ, List.map_append, List.map_append]; rfl
  · obtain ⟨B', N', e', hp, hp0, hpb, hq0, hqb, hqv⟩ := z
    have oq : Own H0 B' H' q (((List.range m).map fun k => (fP k).getD (ix k) 0).map V.int) := ⟨hq0, hqb, hqv⟩
    exact go q _ H' (N'.give oq) ((n1.ext.trans e').trans (Evl.Ex.new hqb)) (.lst upd_same (RA.ints _))
/-- p.insert(i, e), p a list of one's own that i may read -/
theorem s_ins {B0 H0 : Hp} {p : Addr} {us : List V} {es : List Dt} {x : Dt} {nn m : Nat} (n0 : New B0 H0 B H) (o : Own H0 B H p us) (ra : RA B us es) (hv : σ[nn]? = some (some (.ref p))) (hz : us.length < 1000) (hm : m < 1000)
    (h1 : EvR ta σ (upd B p (.lst us)) (.int (m : Nat))) (h2 : EvR tb σ B x)
    (go : ∀ (v : V) B1 H1, New B0 H0 B1 H1 → Ex B B1 → Own H0 B1 H1 p (us.take m ++ [v] ++ us.drop m) → RA B1 (us.take m ++ [v] ++ us.drop m) (es.take m ++ [x] ++ es.drop m) → D.nx σ H1) :
    tDrop (tBM K "list" rIns (tVar nn) (tCons ta (tCons tb tNil))) D σ H :=
  ⟨_, hv, .inl ⟨rfl, _, .inl (.inl o.h)⟩, h1 H (o.ex n0.sub) _ fun w B2 H2 n2 rw => by
    cases rw
    have eH : Ex B H2 := n0.sub.trans n2.heap
    have N2 : New B0 H0 B H2 := n0.trans (New.grow eH n2.heap n0.sub)
    refine h2 H2 eH _ fun v B3 H3 n3 rv => ?_
    have N3 := N2.trans n3
    have o2 : Own H0 B H2 p us := ⟨o.h0, o.b, n2.heap _ _ o.h⟩
    have o3 := o2.step n3
    refine ⟨p, us, _, v, rfl, rfl, o3.h, sz_lt (by omega), by omega, by omega, ?_⟩
    rw [Int.toNat_natCast]
    have ra3 := ra.mono n3.ext
    exact go v B3 _ (N3.put o3) n3.ext o3.put (((ra3.take m).append (RA.one rv)).append (ra3.drop m))⟩
end
end U

namespace U
open PySem L2
open Evl (Ex fresh_back sz_of sz_lt sq_of st_of rLenS rListS)
/-! ### < of data -/
def rLtD (K : PySem.W.Frag) : R2 := fun x y H Q => ∃ d e, Dp K H x d ∧ Dp K H y e ∧ PySem.W.alike d e = true ∧ d ≠ .none ∧ min d.depth e.depth ≤ 60 ∧ Q (.bl (PySem.W.dataLt d e)) H
theorem op_ltD {X : Cx} (hu : X.A.units + 64 < cLine) : OpR X (compareOp .Lt) (rLtD X.K) := by
  intro pins s σ H x y v u Q I rx ry h
  obtain ⟨d, e, hd, he, ha, hn, hm, q⟩ := h
  obtain ⟨as, r1⟩ := Dp.reads I d x v hd rx
  obtain ⟨bs, r2⟩ := Dp.reads I e y u he ry
  have z : wpAny (model X.prog X.w) X.A (compareOp .Lt v u) (EP X pins σ Q) X.xe s := PySem.W.rcLt_alike d e X.A s v u as bs r1 r2 ha hn (by omega) X.prog X.w X.xe (EP X pins σ Q) ⟨.bl _, H, I, rfl, q⟩
  exact z
theorem k_ltD {X : Cx} {K : PySem.W.Frag} (h : X.K = K) (hu : X.A.units + 64 < cLine) : OpR X (compareOp .Lt) (rLtD K) := h ▸ op_ltD hu
section
variable {K : PySem.W.Frag} {σ : L2.St} {B B' H : Hp} {ta tb te : TE} {tl tl2 : TA} {d x y : Dt} {ds : List Dt} {D : Ends} {i j n t : Nat} {ns ms : List Int}
theorem cln_ints : ∀ ns : List Int, clnAll (ns.map Dt.int) = true
  | [] => by simp [clnAll]
  | n :: ns => by rw [List.map_cons, clnAll, cln_ints ns, Dt.cln] <;> simp
theorem cln_set {a b : List Int} : (eSet a b).cln = true := by
  rw [Dt.cln, clnAll, clnAll, clnAll, Dt.cln, Dt.cln, cln_ints, cln_ints]; rfl
theorem rv_ltD (ha : PySem.W.alike x.py y.py = true) (hn : x.py ≠ .none) (hm : min x.py.depth y.py.depth ≤ 60) (cx : x.cln = true := by exact cln_set) (cy : y.cln = true := by exact cln_set) : RV (rLtD K) x y (.bl (PySem.W.dataLt x.py y.py)) := fun B H1 v w e r1 r2 Q q =>
  ⟨_, _, (r1.mono e).dp cx, (r2.mono e).dp cy, ha, hn, hm, q _ B H1 (New.refl e) (.bl _)⟩
theorem eqv_ints : ∀ (a b : List Int), PyData.eqvAll (pyAll (a.map Dt.int)) (pyAll (b.map Dt.int)) = decide (a = b)
  | [], [] => by simp [pyAll, PyData.eqvAll]
  | [], _ :: _ => by simp [pyAll, PyData.eqvAll]
  | _ :: _, [] => by simp [pyAll, PyData.eqvAll]
  | x :: a, y :: b => by
    rw [List.map_cons, List.map_cons, pyAll, pyAll, PyData.eqvAll, eqv_ints a b, Dt.py, Dt.py]
    have e : PyData.eqv (.int x) (.int y) = decide (x = y) := by
      simp only [PyData.eqv]
      first
        | rfl
        | (by_cases h : x = y <;> simp [h])
    rw [e]
    by_cases h1 : x = y
    · by_cases h2 : a = b
      · rw [decide_eq_true h1, decide_eq_true h2, decide_eq_true (by rw [h1, h2])]; rfl
      · rw [decide_eq_true h1, decide_eq_false h2, decide_eq_false (fun z => h2 (List.cons.inj z).2)]; rfl
    · rw [decide_eq_false h1, decide_eq_false (fun z => h1 (List.cons.inj z).1)]; rfl
theorem eqv_eI (a b : List Int) : PyData.eqv (eI a).py (eI b).py = decide (a = b) := by
  rw [← eqv_ints a b, Dt.py, Dt.py, PyData.eqv]
theorem alike_ints : ∀ (a b : List Int), PySem.W.alikeAll (pyAll (a.map Dt.int)) (pyAll (b.map Dt.int)) = true
  | [], [] => by simp [pyAll, PySem.W.alikeAll]
  | [], _ :: _ => by simp [pyAll, PySem.W.alikeAll]
  | _ :: _, [] => by simp [pyAll, PySem.W.alikeAll]
  | x :: a, y :: b => by
    rw [List.map_cons, List.map_cons, pyAll, pyAll, PySem.W.alikeAll, alike_ints a b, Dt.py, Dt.py, PySem.W.alike]; rfl
theorem alike_eI (a b : List Int) : PySem.W.alike (eI a).py (eI b).py = true := by
  rw [Dt.py, Dt.py, PySem.W.alike]; exact alike_ints a b
/-- lists of equal length in their order -/
def ltI : List Int → List Int → Bool
  | x :: xs, y :: ys => decide (x < y) || (decide (x = y) && ltI xs ys)
  | _, _ => false
theorem ltI_irr : ∀ a, ltI a a = false
  | [] => rfl
  | x :: a => by simp [ltI, ltI_irr a]
theorem lt_toks : ∀ (a b : List Int), ltI a b = true → PyProof.Rows.lexLt PyProof.Rows.itemOrd (PySem.W.keyToksAll (pyAll (a.map Dt.int))) (PySem.W.keyToksAll (pyAll (b.map Dt.int))) = true
  | [], _, h => by simp [ltI] at h
  | _ :: _, [], h => by simp [ltI] at h
  | x :: a, y :: b, h => by
    have hal : PySem.W.alike (Dt.int x).py (Dt.int y).py = true := by rw [Dt.py, Dt.py, PySem.W.alike]
    rw [List.map_cons, List.map_cons, pyAll, pyAll]
    rw [ltI, Bool.or_eq_true, Bool.and_eq_true, decide_eq_true_eq, decide_eq_true_eq] at h
    have he := eqv_ints [x] [y]
    by_cases hxy : x = y
    · subst hxy
      have h' : ltI a b = true := by rcases h with h | h; omega; exact h.2
      rw [PySem.W.dataLt_all_yes hal (PySem.W.eqv_refl_alike _ hal)]
      exact lt_toks a b h'
    · have hlt : x < y := by rcases h with h | h; exact h; exact absurd h.1 hxy
      have hne : PyData.eqv (Dt.int x).py (Dt.int y).py = false := by
        have : PyData.eqvAll [(Dt.int x).py] [(Dt.int y).py] = false := by
          have h2 := eqv_ints [x] [y]
          rw [decide_eq_false (fun z => hxy (List.cons.inj z).1)] at h2
          exact h2
        rw [PyData.eqvAll, PyData.eqvAll, Bool.and_true] at this
        exact this
      rw [PySem.W.dataLt_all_no hal hne, Dt.py, Dt.py, PySem.W.dataLt_int]
      exact decide_eq_true hlt
theorem lt_set {a b c d : List Int} (h : ltI a b = true ∨ (a = b ∧ ltI c d = true)) : PySem.W.dataLt (eSet a c).py (eSet b d).py = true ∧ PySem.W.alike (eSet a c).py (eSet b d).py = true ∧ (eSet a c).py ≠ .none ∧ min (eSet a c).py.depth (eSet b d).py.depth ≤ 60 := by
  have e1 : (eSet a c).py = .tuple [(eI a).py, (eI c).py] := by simp only [Dt.py, pyAll]
  have e2 : (eSet b d).py = .tuple [(eI b).py, (eI d).py] := by simp only [Dt.py, pyAll]
  have al1 := alike_eI a b
  have al2 := alike_eI c d
  refine ⟨?_, ?_, by rw [e1]; simp, ?_⟩
  · rw [e1, e2, PySem.W.dataLt_tuple]
    rcases h with h | ⟨rfl, h⟩
    · have hne : PyData.eqv (eI a).py (eI b).py = false := by
        rw [eqv_eI, decide_eq_false]
        intro z; subst z; rw [ltI_irr] at h; cases h
      rw [PySem.W.dataLt_all_no al1 hne, Dt.py, Dt.py, PySem.W.dataLt_list]
      exact lt_toks a b h
    · rw [PySem.W.dataLt_all_yes al1 (PySem.W.eqv_refl_alike _ al1)]
      have hne : PyData.eqv (eI c).py (eI d).py = false := by
        rw [eqv_eI, decide_eq_false]
        intro z; subst z; rw [ltI_irr] at h; cases h
      rw [PySem.W.dataLt_all_no al2 hne, Dt.py, Dt.py, PySem.W.dataLt_list]
      exact lt_toks c d h
  · rw [e1, e2, PySem.W.alike, PySem.W.alikeAll, PySem.W.alikeAll, PySem.W.alikeAll, al1, al2]; rfl
  · rw [dep_py]
    have : (eSet a c).dep = 2 := by rw [Dt.dep, depAll, depAll, depAll, Dt.dep, Dt.dep, depAll_ints, depAll_ints]; rfl
    omega
/-! ### list(range(n)) -/
theorem ev_listRg {n : Int} (h : EvR ta σ B (.int n)) (h0 : 0 ≤ n) (h1 : n ≤ 1000000) : EvR (tLstRg (tRg1 ta)) σ B (.lst ((List.range n.toNat).map fun i : Nat => Dt.int (i : Nat))) := fun H1 e Q q =>
  h H1 e _ fun v B2 H2 nw rv => by
    cases rv
    refine ⟨n, rfl, RgOk.of_le (by omega) (by omega) (by omega) (by omega), fun p hp => ?_⟩
    have er : rgV 0 n = (List.range n.toNat).map fun i : Nat => V.int (i : Nat) := by
      unfold rgV
      rw [Int.sub_zero]
      exact List.map_congr_left fun i _ => by rw [Int.zero_add]
    rw [er]
    exact q _ _ _ (nw.trans (New.one nw.sub hp)) (.lst upd_same (ra_rng _))
/-! ### several lists of one's own -/
/-- the base with what stands at the places as -/
def gB (B H : Hp) (as : List Addr) : Hp := fun a => if a ∈ as then H a else B a
theorem gB_ex {as : List Addr} (e : Ex B H) : Ex (gB B H as) H := fun a u h => by
  unfold gB at h
  split at h
  · exact h
  · exact e a u h
theorem gB_ext {as : List Addr} (hb : ∀ a ∈ as, B a = none) : Ex B (gB B H as) := fun a u h => by
  unfold gB
  rw [if_neg (fun z => by rw [hb a z] at h; cases h)]
  exact h
theorem New.giveA {B0 H0 : Hp} {as : List Addr} (n : New B0 H0 B H) (ho : ∀ a ∈ as, H0 a = none ∧ B a = none) : New B0 H0 (gB B H as) H :=
  ⟨n.ext.trans (gB_ext fun a h => (ho a h).2), gB_ex n.sub, n.heap, fun a h1 h2 => by
    unfold gB
    rw [if_neg (fun z => h2 (ho a z).1)]
    exact n.fresh a h1 h2⟩
structure Pr where
  p : Addr
  q : Addr
  r : List Int
  c : List Int
def adrs (es : List Pr) : List Addr := es.flatMap fun e => [e.p, e.q]
structure PrOk (H0 B H : Hp) (v : V) (e : Pr) : Prop where
  t : ∃ t, v = .ref t ∧ B t = some (.tup [.ref e.p, .ref e.q])
  p : Own H0 B H e.p (e.r.map V.int)
  q : Own H0 B H e.q (e.c.map V.int)
/-- the values ts are tuples of two lists of one's own each -/
inductive Prs (H0 B H : Hp) : List V → List Pr → Prop
  | nil : Prs H0 B H [] []
  | cons {v : V} {vs : List V} {e : Pr} {es : List Pr} : PrOk H0 B H v e → Prs H0 B H vs es → Prs H0 B H (v :: vs) (e :: es)
theorem PrOk.step {H0 B1 H1 : Hp} {v : V} {e : Pr} (o : PrOk H0 B H v e) (n : New B H B1 H1) : PrOk H0 B1 H1 v e := by
  obtain ⟨⟨t, h1, h2⟩, p, q⟩ := o
  exact ⟨⟨t, h1, n.ext _ _ h2⟩, p.step n, q.step n⟩
theorem Prs.step {H0 B1 H1 : Hp} (n : New B H B1 H1) : ∀ {vs : List V} {es : List Pr}, Prs H0 B H vs es → Prs H0 B1 H1 vs es
  | _, _, .nil => .nil
  | _, _, .cons a b => .cons (a.step n) (Prs.step n b)
theorem Prs.append {H0 : Hp} : ∀ {vs ws : List V} {es fs : List Pr}, Prs H0 B H vs es → Prs H0 B H ws fs → Prs H0 B H (vs ++ ws) (es ++ fs)
  | _, _, _, _, .nil, k => k
  | _, _, _, _, .cons a b, k => .cons a (Prs.append b k)
theorem Prs.len {H0 : Hp} : ∀ {vs : List V} {es : List Pr}, Prs H0 B H vs es → vs.length = es.length
  | _, _, .nil => rfl
  | _, _, .cons _ b => by rw [List.length_cons, List.length_cons, Prs.len b]
theorem Prs.own {H0 : Hp} : ∀ {vs : List V} {es : List Pr}, Prs H0 B H vs es → ∀ a ∈ adrs es, H0 a = none ∧ B a = none
  | _, _, .nil, a, h => by cases h
  | _, _, .cons (e := e) (es := es) x b, a, h => by
    have h : a ∈ [e.p, e.q] ++ adrs es := h
    rcases List.mem_append.mp h with h | h
    · rcases List.mem_cons.mp h with h | h
      · rw [h]; exact ⟨x.p.h0, x.p.b⟩
      · rw [List.mem_singleton.mp h]; exact ⟨x.q.h0, x.q.b⟩
    · exact Prs.own b a h
theorem Prs.get {H0 : Hp} : ∀ {vs : List V} {es : List Pr} {i : Nat} {v : V}, Prs H0 B H vs es → vs[i]? = some v → ∃ e, es[i]? = some e ∧ PrOk H0 B H v e
  | _, _, _, _, .nil, h => by simp at h
  | _, _, 0, _, .cons a b, h => by simp at h; subst h; exact ⟨_, rfl, a⟩
  | _, _, i + 1, _, .cons a b, h => by
    obtain ⟨e, h1, h2⟩ := Prs.get (i := i) b (by simpa using h)
    exact ⟨e, by simpa using h1, h2⟩
/-- other places have changed -/
theorem Prs.other {H0 B1 H1 : Hp} : ∀ {vs : List V} {es : List Pr}, (∀ a ∈ adrs es, H1 a = H a ∧ B1 a = none) → Ex B B1 → Prs H0 B H vs es → Prs H0 B1 H1 vs es
  | [], [], _, _, .nil => .nil
  | _ :: _, e :: es, h, e1, .cons x b => by
    have h : ∀ a ∈ [e.p, e.q] ++ adrs es, H1 a = H a ∧ B1 a = none := h
    have hp := h e.p (by simp)
    have hq := h e.q (by simp)
    obtain ⟨⟨t, h1, h2⟩, p, q⟩ := x
    exact .cons ⟨⟨t, h1, e1 _ _ h2⟩, ⟨p.h0, hp.2, by rw [hp.1]; exact p.h⟩, ⟨q.h0, hq.2, by rw [hq.1]; exact q.h⟩⟩ (Prs.other (fun a ha => h a (List.mem_append_right _ ha)) e1 b)
/-- as data -/
theorem Prs.data {H0 : Hp} {as : List Addr} (e0 : Ex B H) : ∀ {vs : List V} {es : List Pr}, (∀ a ∈ adrs es, a ∈ as) → (∀ a ∈ as, B a = none) → Prs H0 B H vs es → RA (gB B H as) vs (es.map fun e => eSet e.r e.c)
  | [], [], _, _, .nil => .nil
  | _ :: _, e :: es, h, hb, .cons x b => by
    have h : ∀ a ∈ [e.p, e.q] ++ adrs es, a ∈ as := h
    obtain ⟨⟨t, h1, h2⟩, p, q⟩ := x
    subst h1
    have gp : gB B H as e.p = some (.lst (e.r.map V.int)) := by unfold gB; rw [if_pos (h e.p (by simp))]; exact p.h
    have gq : gB B H as e.q = some (.lst (e.c.map V.int)) := by unfold gB; rw [if_pos (h e.q (by simp))]; exact q.h
    exact .cons (.tup (gB_ext hb _ _ h2) (.cons (.lst gp (RA.ints _)) (.cons (.lst gq (RA.ints _)) .nil))) (Prs.data e0 (fun a ha => h a (List.mem_append_right _ ha)) hb b)
/-- a new list of new pairs of new lists -/
def EvP (te : TE) (σ : L2.St) (B : Hp) (l : List (List Int × List Int)) : Prop := ∀ H1, Ex B H1 → ∀ Q : VK, (∀ a ts es B2 H2, New B H1 B2 H2 → B2 a = some (.lst ts) → Prs H1 B2 H2 ts es → (adrs es).Nodup → (es.map fun e => (e.r, e.c)) = l → Q (.ref a) H2) → te σ H1 Q
theorem EvP.toR {l : List (List Int × List Int)} (h : EvP te σ B l) : EvR te σ B (.lst (l.map fun x => eSet x.1 x.2)) := fun H1 e Q q => h H1 e Q fun a ts es B2 H2 n ha pr _ hl => by
  refine q _ (gB B2 H2 (adrs es)) H2 (n.giveA (pr.own)) (.lst (gB_ext (fun a h => (pr.own a h).2) _ _ ha) ?_)
  rw [← hl, List.map_map]
  exact pr.data n.sub (fun _ h => h) fun a h => (pr.own a h).2
theorem adrs_snoc (es : List Pr) (e : Pr) : adrs (es ++ [e]) = adrs es ++ [e.p, e.q] := by unfold adrs; rw [List.flatMap_append]; rfl
/-- [(list(x), list(y)) for x in ta for y in tb] -/
theorem ep_lc2 {l m : List (List Int)} {vs vs1 : List Nat} {wi wi1 : TI} {j1 : Nat} (ho : Goes wi σ B (l.map eI)) (hz : l.length * m.length < 100000)
    (hw : ∀ x, wipe ((wipe σ vs).set j (some x)) vs = wipe σ vs) (hw1 : ∀ x y, wipe ((wipe ((wipe σ vs).set j (some x)) vs1).set j1 (some y)) vs1 = wipe ((wipe σ vs).set j (some x)) vs1)
    (hi : ∀ v B1, Ex B B1 → Goes wi1 ((wipe σ vs).set j (some v)) B1 (m.map eI))
    (h1 : ∀ v u, ((wipe ((wipe σ vs).set j (some v)) vs1).set j1 (some u))[j]? = some (some v)) (h2 : ∀ v u, ((wipe ((wipe σ vs).set j (some v)) vs1).set j1 (some u))[j1]? = some (some u)) :
    EvP (tLc2 wi (gName j) tYes wi1 (gName j1) tYes (tTup (tCons (tCB (rListS K) (tCons (tVar j) tNil)) (tCons (tCB (rListS K) (tCons (tVar j1) tNil)) tNil))) vs vs1) σ B (l.flatMap fun a => m.map fun b => (a, b)) := fun H0 e0 Q k => ho H0 e0 _ fun J B1 H1 n lp D hD => by
  have lenF : ∀ i, ((l.take i).flatMap fun a => m.map fun b => (a, b)).length ≤ l.length * m.length := fun i => by
    have h : ∀ q : List (List Int), (q.flatMap fun a => m.map fun b => (a, b)).length = q.length * m.length := fun q => by
      induction q with
      | nil => simp
      | cons a q ih => rw [List.flatMap_cons, List.length_append, ih, List.length_map, List.length_cons, Nat.succ_mul, Nat.add_comm]
    rw [h]
    exact Nat.mul_le_mul_right _ (by rw [List.length_take]; omega)
  refine lp (fun x H' N => gName j x (wipe σ vs) H' fun σ2 H2 => wipe σ2 vs = wipe σ vs ∧ tYes σ2 H2 fun b H3 => if b = true then _ else N H3) _ (fun i H' => ∃ B' acc es, New B1 H1 B' H' ∧ Own H1 B' H' D acc ∧ Prs H1 B' H' acc es ∧ (D :: adrs es).Nodup ∧ (es.map fun e => (e.r, e.c)) = (l.take i).flatMap fun a => m.map fun b => (a, b)) (upd H1 D (.lst [])) (n.sub.trans (Evl.Ex.new hD)) ?_ ?_ ?_
  · exact ⟨B1, [], [], ⟨Evl.Ex.refl _, Evl.Ex.mut n.sub (fresh_back n.sub hD), Evl.Ex.new hD, fun _ h _ => h⟩, ⟨hD, fresh_back n.sub hD, upd_same⟩, .nil, by simp [adrs], rfl⟩
  · rintro i d x H' e1 hd rx ⟨B', acc, es, n', o, pr, nd, hes⟩
    rw [List.getElem?_map] at hd
    cases hq : l[i]? with
    | none => rw [hq] at hd; cases hd
    | some a =>
    rw [hq] at hd; cases hd
    refine ⟨hw x, ?_⟩
    have bD : B1 D = none := fresh_back n.sub hD
    refine (hi x B' (n.ext.trans n'.ext)) H' n'.sub _ fun J1 B2 H2 n2 lp1 => ?_
    have b2D : B2 D = none := n2.fresh D o.b (by rw [o.h]; simp)
    refine lp1 (fun y H'' N => gName j1 y (wipe ((wipe σ vs).set j (some x)) vs1) H'' fun σ3 H5 => wipe σ3 vs1 = wipe ((wipe σ vs).set j (some x)) vs1 ∧ tYes σ3 H5 fun b H6 => if b = true then (tTup (tCons (tCB (rListS K) (tCons (tVar j) tNil)) (tCons (tCB (rListS K) (tCons (tVar j1) tNil)) tNil))) σ3 H6 fun y H7 => ∃ acc, H7 D = some (.lst acc) ∧ acc.length < sizeLine ∧ N (upd H7 D (.lst (acc ++ [y]))) else N H6) _
      (fun i2 H'' => ∃ B3 acc es, Ex B2 B3 ∧ New B1 H1 B3 H'' ∧ Own H1 B3 H'' D acc ∧ Prs H1 B3 H'' acc es ∧ (D :: adrs es).Nodup ∧ (es.map fun e => (e.r, e.c)) = ((l.take i).flatMap fun a => m.map fun b => (a, b)) ++ (m.take i2).map fun b => (a, b)) H2 n2.sub ?_ ?_ ?_
    · exact ⟨B2, acc, es, Evl.Ex.refl _, n'.trans n2, o.step n2, pr.step n2, nd, by rw [hes, List.take_zero]; simp⟩
    · rintro i2 d2 u H'' e2 hd2 ru ⟨B3, acc3, es3, e23, n3, o3, pr3, nd3, hes3⟩
      rw [List.getElem?_map] at hd2
      cases hq2 : m[i2]? with
      | none => rw [hq2] at hd2; cases hd2
      | some b =>
      rw [hq2] at hd2; cases hd2
      refine ⟨hw1 x u, ?_⟩
      have len : acc3.length < 100000 := by
        rw [pr3.len]
        have h3 := congrArg List.length hes3
        rw [List.length_map, List.length_append, List.length_map] at h3
        have h4 := lenF (i + 1)
        rw [List.take_add_one, hq, List.flatMap_append, List.length_append] at h4
        have h5 : ((some a).toList.flatMap fun a => m.map fun b => (a, b)).length = m.length := by simp
        rw [h5] at h4
        have h6 : (m.take i2).length ≤ m.length := by rw [List.length_take]; omega
        omega
      unfold tYes
      dsimp only
      rw [if_pos rfl]
      have rx3 := (rx.mono n'.ext).mono (n2.ext.trans e23)
      refine (el_list (K := K) (ev_v (h1 x u) rx3)) H'' n3.sub _ fun p us B4 H4 n4 o4 ra4 => ?_
      have eus := ra4.ints_inv
      subst eus
      refine (el_list (K := K) (ev_v (h2 x u) ((ru.mono e23).mono n4.ext))) H4 n4.sub _ fun q us B5 H5 n5 o5 ra5 => ?_
      have eus := ra5.ints_inv
      subst eus
      refine ⟨sz_of (by simp), fun t ht => ?_⟩
      have n45 := n4.trans n5
      have tb := fresh_back n5.sub ht
      have n6 : New B3 H'' (upd B5 t (.tup [.ref p, .ref q])) (upd H5 t (.tup [.ref p, .ref q])) := n45.trans (New.one n5.sub ht)
      have N6 := n3.trans n6
      have D6 := o3.step n6
      have pt : p ≠ t := fun z => by subst z; rw [(o4.step n5).h] at ht; cases ht
      have qt : q ≠ t := fun z => by subst z; rw [o5.h] at ht; cases ht
      have op : Own H1 (upd B5 t (.tup [.ref p, .ref q])) (upd H5 t (.tup [.ref p, .ref q])) p (a.map V.int) := ⟨fresh_back n3.heap o4.h0, by rw [upd_ne pt]; exact (o4.step n5).b, by rw [upd_ne pt]; exact (o4.step n5).h⟩
      have oq : Own H1 (upd B5 t (.tup [.ref p, .ref q])) (upd H5 t (.tup [.ref p, .ref q])) q (b.map V.int) := ⟨fresh_back (n3.heap.trans n4.heap) o5.h0, by rw [upd_ne qt]; exact o5.b, by rw [upd_ne qt]; exact o5.h⟩
      have pD : p ≠ D := fun z => by have := o4.h0; rw [z, o3.h] at this; cases this
      have qD : q ≠ D := fun z => by have := o5.h0; rw [z, (o3.step n4).h] at this; cases this
      have pq : p ≠ q := fun z => by have := o5.h0; rw [← z, o4.h] at this; cases this
      have inH : ∀ z ∈ adrs es3, ∃ w, H'' z = some w := fun z hz => by
        have : ∀ {vs : List V} {es : List Pr}, Prs H1 B3 H'' vs es → z ∈ adrs es → ∃ w, H'' z = some w := by
          intro vs es pr
          induction pr with
          | nil => intro h; cases h
          | cons a b ih =>
            rename_i v vs e es
            intro h
            have h : z ∈ [e.p, e.q] ++ adrs es := h
            rcases List.mem_append.mp h with h | h
            · rcases List.mem_cons.mp h with h | h
              · rw [h]; exact ⟨_, a.p.h⟩
              · rw [List.mem_singleton.mp h]; exact ⟨_, a.q.h⟩
            · exact ih h
        exact this pr3 hz
      have pN : p ∉ adrs es3 := fun z => by obtain ⟨w, hw⟩ := inH p z; rw [o4.h0] at hw; cases hw
      have qN : q ∉ adrs es3 := fun z => by obtain ⟨w, hw⟩ := inH q z; have := n4.heap _ _ hw; rw [o5.h0] at this; cases this
      have prN : Prs H1 (upd B5 t (.tup [.ref p, .ref q])) (upd H5 t (.tup [.ref p, .ref q])) (acc3 ++ [V.ref t]) (es3 ++ [⟨p, q, a, b⟩]) := (pr3.step n6).append (.cons ⟨⟨t, rfl, upd_same⟩, op, oq⟩ .nil)
      have ndN : (D :: adrs (es3 ++ [⟨p, q, a, b⟩])).Nodup := by
        rw [adrs_snoc]
        have nd1 := List.nodup_cons.mp nd3
        refine List.nodup_cons.mpr ⟨fun z => ?_, List.nodup_append.mpr ⟨nd1.2, by simp [pq], fun z hz y hy e => ?_⟩⟩
        · rcases List.mem_append.mp z with z | z
          · exact nd1.1 z
          · rcases List.mem_cons.mp z with z | z
            · exact pD z.symm
            · exact qD (List.mem_singleton.mp z).symm
        · subst e
          rcases List.mem_cons.mp hy with h | h
          · rw [h] at hz; exact pN hz
          · rw [List.mem_singleton.mp h] at hz; exact qN hz
      refine ⟨acc3, D6.h, sz_lt len, Evl.Ex.mut (e23.trans (n6.ext.trans n6.sub)) b2D, _, _, es3 ++ [⟨p, q, a, b⟩], e23.trans n6.ext, N6.put D6, D6.put, prN.other (fun z hz => ⟨upd_ne (fun e => ?_), (prN.own z hz).2⟩) (Evl.Ex.refl _), ndN, ?_⟩
      · subst e; exact (List.nodup_cons.mp ndN).1 hz
      · rw [List.map_append, hes3, List.take_add_one, hq2, List.map_append, List.append_assoc]; rfl
    · rintro H'' e2 ⟨B3, acc3, es3, e23, n3, o3, pr3, nd3, hes3⟩
      refine ⟨n3.ext.trans n3.sub, B3, acc3, es3, n3, o3, pr3, nd3, ?_⟩
      rw [hes3, List.length_map, List.take_length, List.take_add_one, hq, List.flatMap_append]
      simp
  · rintro H' e1 ⟨B', acc, es, n', o, pr, nd, hes⟩
    rw [List.length_map, List.take_length] at hes
    have nd1 := List.nodup_cons.mp nd
    have N := n.trans n'
    have og : Own H0 B' H' D acc := n.own o
    refine k D acc es _ H' (N.give og) upd_same ?_ nd1.2 hes
    have pr0 : Prs H0 B' H' acc es := by
      have : ∀ {vs : List V} {es : List Pr}, Prs H1 B' H' vs es → Prs H0 B' H' vs es := by
        intro vs es pr
        induction pr with
        | nil => exact .nil
        | cons a b ih => exact .cons ⟨a.t, n.own a.p, n.own a.q⟩ ih
      exact this pr
    exact pr0.other (fun z hz => ⟨rfl, by rw [upd_ne (fun e => by subst e; exact nd1.1 hz)]; exact (pr0.own z hz).2⟩) (Evl.Ex.new o.b)
/-- a promise: such a list -/
def spP (g : List Dt → List (List Int × List Int) → Prop) : Sp := fun vs H Q _ => ∃ B as l, Ex B H ∧ RA B vs as ∧ g as l ∧ ∀ a ts es B2 H2, New B H B2 H2 → B2 a = some (.lst ts) → Prs H B2 H2 ts es → (adrs es).Nodup → (es.map fun e => (e.r, e.c)) = l → Q (.ref a) H2
theorem Prs.back {H0 H1 : Hp} (e : Ex H0 H1) : ∀ {vs : List V} {es : List Pr}, Prs H1 B H vs es → Prs H0 B H vs es
  | _, _, .nil => .nil
  | _, _, .cons a b => .cons ⟨a.t, ⟨fresh_back e a.p.h0, a.p.b, a.p.h⟩, ⟨fresh_back e a.q.h0, a.q.b, a.q.h⟩⟩ (Prs.back e b)
theorem ep_call {xs : List Dt} {l : List (List Int × List Int)} {g : List Dt → List (List Int × List Int) → Prop} {E : XK} (h : EvRA tl σ B xs) (hg : g xs l) : EvP (tCall (spP g) [] E tl) σ B l := fun H1 e Q q => h H1 e _ fun vs B1 H2 n ra => by
  refine ⟨B1, xs, l, n.sub, by rw [List.append_nil]; exact ra, hg, fun a ts es B2 H3 n2 ha pr nd hl => q a ts es B2 H3 (n.trans n2) ha (pr.back n.heap) nd hl⟩
theorem ep_callK {xs zs : List Dt} {l : List (List Int × List Int)} {g : List Dt → List (List Int × List Int) → Prop} {E : XK} {tk : TA} {gV : List V → List V → List V} {gD : List Dt → List Dt → List Dt} (h : EvRA tl σ B xs) (hk : EvRA tk σ B zs) (rel : ∀ B vs ws as bs, RA B vs as → RA B ws bs → as.length = xs.length → bs.length = zs.length → RA B (gV vs ws) (gD as bs)) (hg : g (gD xs zs) l) :
    EvP (tCallK (spP g) gV E tl tk) σ B l := fun H1 e Q q => h H1 e _ fun vs B1 H2 n ra => (hk.mono n.ext) H2 n.sub _ fun ws B2 H3 n2 rb =>
  ⟨B2, _, l, n2.sub, rel B2 vs ws xs zs (ra.mono n2.ext) rb rfl rfl, hg, fun a ts es B3 H4 n3 ha pr nd hl => q a ts es B3 H4 ((n.trans n2).trans n3) ha (pr.back (n.trans n2).heap) nd hl⟩
end
section
variable {K : PySem.W.Frag} {σ : L2.St} {B B' H : Hp} {D : Ends} {tu : TS} {g : TG} {n : Nat}
theorem s_asgP {te : TE} {q : Nat} {l : List (List Int × List Int)} (e : Ex B H) (h : EvP te σ B l) (k : ∀ a ts es B1 H1, New B H B1 H1 → B1 a = some (.lst ts) → Prs H B1 H1 ts es → (adrs es).Nodup → (es.map fun e => (e.r, e.c)) = l → D.nx (σ.set q (some (.ref a))) H1) : tAsg te (gName q) D σ H := h H e _ k
/-- over a list that is not all told -/
theorem s_forRaw {a : Addr} {ts : List V} (e : Ex B H) (hv : σ[n]? = some (some (.ref a))) (hB : B a = some (.lst ts)) (Pv : Nat → L2.St → Hp → Prop) (h0 : Pv 0 σ H) (hx : ∀ i σ' H', Pv i σ' H' → Ex B H')
    (hs : ∀ i v σ' H', ts[i]? = some v → Pv i σ' H' → g v σ' H' fun σ2 H2 => tu { D with nx := Pv (i + 1), ct := Pv (i + 1), bk := D.nx } σ2 H2)
    (hd : ∀ σ' H', Pv ts.length σ' H' → D.nx σ' H') : tFor (iSeq K (tVar n)) g tu D σ H :=
  ⟨_, hv, a, rfl, .inl ⟨⟨ts, sq_of (e _ _ hB)⟩, for_list (K := K) (a := a) (xs := ts) Pv h0 (fun i σ' H' _ q => sq_of (hx i σ' H' q _ _ hB)) (fun i v σ' H' hi q => hs i v σ' H' hi q) hd⟩⟩
/-- t[i].append(z), t a tuple -/
theorem s_appRaw {t p : Addr} {vs us : List V} {i z : Int} (hv : σ[n]? = some (some (.ref t))) (ht : H t = some (.tup vs)) (hi : atI vs i = some (.ref p)) (hp : H p = some (.lst us)) (hz : us.length < 100000) (go : D.nx σ (upd H p (.lst (us ++ [.int z])))) :
    tDrop (tBM K "list" rAppend (tOp (rIx K) (tVar n) (tC (.int i))) (tCons (tC (.int z)) tNil)) D σ H :=
  ⟨_, hv, .inr (.inl ⟨t, vs, i, .ref p, rfl, rfl, st_of ht, hi, ⟨.inl ⟨rfl, _, .inl (.inl hp)⟩, ⟨p, us, .int z, rfl, rfl, hp, sz_lt hz, go⟩⟩⟩)⟩
end
section
variable {P : Program} {w : World} {K : PySem.W.Frag} {mg : Str → Option Value} {base : Heap}
open PySem.Spec PyProof.Rows in
theorem fn_P {x qual : Str} {st : Stmt} {f : Addr} {fd : FuncData} {N ps : List Str} {k : Nat} {g : List Dt → List (List Int × List Int) → Prop} (F : Fun K x qual st f fd) (S : FnScope N ps (defScope st)) (len : ∀ ds d, g ds d → ds.length = ps.length)
    (body : ∀ (cdv : Value) (Γ : Around) (below : List Env) (s : Shared) (B H : Hp) (vs : List V) (as : List Dt) (l : List (List Int × List Int)) (Q : VK) (E : XK), Γ.guards = some [] → Room k (Γ.deeper (envOfC qual (defScope st) s.heap.objs.size f cdv)) →
      Ex B H → RA B vs as → g as l → (∀ a ts es B2 H2, New B H B2 H2 → B2 a = some (.lst ts) → Prs H B2 H2 ts es → (adrs es).Nodup → (es.map fun e => (e.r, e.c)) = l → Q (.ref a) H2) →
      ∃ t, PSs (cxOf CX0 P w K mg base N qual (defScope st) f cdv Γ below s H E).nox (defBody st) t ∧ t { nx := fun _ H' => Q .non H', rt := Q } (start N vs) H) : FnG P w K mg base CX0 (k + 1) f fd ps (spP g) := by
  refine fn_S F S (fun vs H Q E h => ?_) (fun cdv Γ below s H vs Q E hg hr h => ?_)
  · obtain ⟨B, as, ds, _, ra, hd, _⟩ := h
    rw [ra.len]
    exact len as ds hd
  · obtain ⟨B, as, ds, e, ra, hd, q⟩ := h
    exact body cdv Γ below s B H vs as ds Q E hg hr e ra hd q
end
end U

namespace U
open PySem PySem.Spec PyProof.Rows L2
open Evl (Ex fresh_back sz_of sz_lt sq_of st_of rLenS rListS)
theorem takesN {X : Cx} : Takes X (fun _ _ _ _ => False) := fun _ _ x => by
  obtain ⟨_, _, _, _, _, _, _, _, _, _, _, _, _, _, _, _, z⟩ := x
  exact z.elim
theorem passF {X : Cx} : Passes (L2.CX X.prog X.w) X (fun _ _ _ => False) := fun _ _ _ _ _ _ _ ⟨_, _, _, _, _, _, _, _, _, _, _, _, z⟩ => z.elim
section
variable {CX : CXT} {X : Cx} {k : Nat} {f : Addr} {fd : FuncData} {ps : List Str} {sp : Sp} {E : L2.St → XK} {x : Str} {p pos : Pos} {e : Expr} {es : List Expr} {t : TA}
theorem goneS {pins : List (Addr × Obj)} {σ : L2.St} {H : Hp} {s : Shared} {Q : VK} {given : Args} {us : List Value} {as : List V} (F : FnG X.prog X.w X.K X.mg X.base CX k f fd ps sp) (g : X.A.guards = some []) (room : Room k X.A)
    (pass : PassesAt CX X σ (E σ)) (I : Inv X pins σ H s) (hb : BindsTo s fd given (ps.zip us)) (hv : Vals as us) (asked : sp as H Q (E σ)) :
    codeAny (model X.prog X.w) X.A (.call (.ref f) given) (fun r s' => match r with | .ok (.ret u) => EP X pins σ Q u s' | .ok _ => False | .error z => X.xe z s') s := by
  refine codeAny_mono (F.goes X.A g room X.stack s H I.env0 given us as hb hv Q (E σ) asked) (fun r s' z => ?_)
  match r, z with
  | .error a, z => exact pass pins H s a s' I z
  | .ok (.ret u), z => exact I.after z
  | .ok .next, z => exact z.elim
  | .ok .brk, z => exact z.elim
  | .ok .cont, z => exact z.elim
/-- f(e, ..), in a try -/
theorem pe_goS (F : FnG X.prog X.w X.K X.mg X.base CX k f fd ps sp) (g : X.A.guards = some []) (room : Room k X.A) (glob : Gl X x) (at_ : X.mg x = some (.ref f)) (kept : PySem.W.keepIn X.K (.ref f) = true)
    (hb : Binds X.K fd ps []) (pass : ∀ σ, PassesAt CX X σ (E σ)) (ha : PA X (e :: es) t) (nd : (x == ("__debug__" : Str)) = false := by decide)
    (he : starEach (e :: es) X.env = (false, eval e X.env) :: starEach es X.env := by rfl) (plain : (backTo pos (starEach es X.env)).any (·.1) = false := by rfl) :
    PE X (.Call (.Name x p) (e :: es) [] pos) (tCallS sp E t) := by
  constructor
  intro pins s σ H Q I h
  apply wpAny_Call_Name_kw (ld_glob I glob at_ _ nd)
  refine PySem.W.callWith_K (h₀ := X.base) I.ok.mod.kin kept (thn (ha.run pos pins s σ H _ I h) ?_) he plain
  rintro us s1 ⟨as, H1, I1, rv, asked⟩
  have many : us.length = ps.length := by rw [← rv.length]; exact F.long _ _ _ _ asked
  have bound := hb s1 us I1.kIn (by simpa using many)
  rw [List.append_nil] at bound
  exact ⟨I1.kIn, wpAny_call (goneS F g room (pass σ) I1 bound rv asked)⟩
end
/-- an error class of the program's own, made with one text -/
structure ExcT (K : PySem.W.Frag) (mg : Str → Option Value) (x : Str) (C : Addr) : Prop where
  g : mg x = some (.ref C)
  k : PySem.W.keepIn K (.ref C) = true
  x : PySem.W.excIn K C [.type "ValueError", .type "Exception", .type "BaseException", .type "object"] "ValueError.__new__" = true
  b : PySem.W.subIn K (.ref C) (.type "BaseException") = some true
  t : PySem.W.typeIn K (.ref C) = some (.type "type")
  i : ExcC K C
  v : PySem.W.subIn K (.ref C) (.type "ValueError") = some true
/-- an error class in an except clause -/
structure ExcP (K : PySem.W.Frag) (mg : Str → Option Value) (x : Str) (C : Addr) : Prop where
  g : mg x = some (.ref C)
  b : PySem.W.subIn K (.ref C) (.type "BaseException") = some true
  d : PySem.W.hasDictIn K C = true
  t : PySem.W.typeIn K (.ref C) = some (.type "type")
def cAt (mg : Str → Option Value) (x : Str) : Addr := match mg x with
  | some (.ref C) => C
  | _ => 0
theorem cAt_of {mg : Str → Option Value} {x : Str} {C : Addr} (h : mg x = some (.ref C)) : cAt mg x = C := by unfold cAt; rw [h]
/-- isinstance(e, c), e the error that the suite holds -/
def rIsEx (K : PySem.W.Frag) (a : Addr) (cls : Value) (d : Option Addr) : List V → Hp → VK → Prop := fun xs H Q => ∃ D, cls = .ref D ∧ d = none ∧ ExcC K D ∧ rIsE K D a xs H Q
theorem call_isEx {X : Cx} {a : Addr} {cls : Value} {d : Option Addr} {oe : Obj} {pn : List (Addr × Obj)} (hz : Zc cls d oe) (hf : ∃ vs, oe.data = .fields vs) : CallR (X.suite a ((a, oe) :: pn)) (.builtin "isinstance") (rIsEx X.K a cls d) := by
  intro pins s σ H xs us Q I r h
  obtain ⟨D, rfl, rfl, C, h⟩ := h
  exact call_isE C hz hf pins s σ H xs us Q I r h
theorem k_isEx {K : PySem.W.Frag} {X : Cx} {a : Addr} {cls : Value} {d : Option Addr} {oe : Obj} {pn : List (Addr × Obj)} (h : X.K = K) (hz : Zc cls d oe) (hf : ∃ vs, oe.data = .fields vs) : CallR (X.suite a ((a, oe) :: pn)) (.builtin "isinstance") (rIsEx K a cls d) := h ▸ call_isEx hz hf
theorem kit_self {K : PySem.W.Frag} {C : Addr} : PySem.W.kitOne K (.ref C) (.ref C) = some true := by
  unfold PySem.W.kitOne
  rw [if_pos (by simp)]
theorem kit_val {K : PySem.W.Frag} {C : Addr} (h : PySem.W.subIn K (.ref C) (.type "ValueError") = some true) : PySem.W.kitOne K (.ref C) (.type "ValueError") = some true := by
  unfold PySem.W.kitOne
  rw [if_neg (by simp)]
  show (if PySem.W.kitMeta "ValueError" = true then PySem.W.subIn K (.ref C) (.type "ValueError") else none) = some true
  rw [if_pos (by decide +kernel)]
  exact h
section
variable {P : Program} {w : World} {K : PySem.W.Frag} {mg : Str → Option Value} {base : Heap}
/-- a def that may raise, by its body -/
theorem fn_X {x qual : Str} {st : Stmt} {f : Addr} {fd : FuncData} {N ps : List Str} {k : Nat} {sp : Sp} (F : Fun K x qual st f fd) (S : FnScope N ps (defScope st)) (len : ∀ vs H Q E, sp vs H Q E → vs.length = ps.length)
    (body : ∀ (cdv : Value) (Γ : Around) (below : List Env) (s : Shared) (H : Hp) (vs : List V) (Q : VK) (E : XK), Γ.guards = some [] → Room k (Γ.deeper (envOfC qual (defScope st) s.heap.objs.size f cdv)) → sp vs H Q E →
      ∃ t, PSs (cxOf (L2.CX P w) P w K mg base N qual (defScope st) f cdv Γ below s H E) (defBody st) t ∧ t { nx := fun _ H' => Q .non H', rt := Q } (start N vs) H) : FnG P w K mg base (L2.CX P w) (k + 1) f fd ps sp := by
  obtain ⟨oc, od, kV, doc, pm, an, cdv, ct, osl, rfl, lk, hcd⟩ := F.ex
  refine fnG_of lk hcd S len (fun Γ below s H vs Q E hg hr h => ?_)
  exact body cdv Γ below s H vs Q E hg hr h
end
/-- a promise: a tuple of two lists of one's own, or the error C -/
def spS (C : Addr) (g : List Dt → Option (List Int × List Int) → Prop) : Sp := fun vs H Q E => ∃ B as o, Ex B H ∧ RA B vs as ∧ g as o ∧
  (∀ x, o = some x → ∀ (t : Addr) (e : Pr) B2 H2, New B H B2 H2 → PrOk H B2 H2 (.ref t) e → e.p ≠ e.q → (e.r, e.c) = x → Q (.ref t) H2) ∧ (o = none → ∀ H2, Ex H H2 → E (.ref C) none H2)
section
variable {K : PySem.W.Frag} {σ : L2.St} {B B' H : Hp} {ta tb te : TE} {ds : List Dt} {D : Ends} {H0 : Hp} {p : Addr}
/-- xs * n, a list of one's own -/
theorem el_rep {n : Int} (h : EvR ta σ B (.lst ds)) (hi : EvR tb σ B (.int n)) (hn : 0 ≤ n ∧ n ≤ 1000) (hd : ds.length ≤ 10) : EvL (tOp rRep ta tb) σ B (List.replicate n.toNat ds).flatten := fun H1 e Q q =>
  h H1 e _ fun v B2 H2 n1 rv => (hi.mono n1.ext) H2 n1.sub _ fun w B3 H3 n2 rw => by
    cases rw
    obtain ⟨a, vs, rfl, hp, ra⟩ := rv.lst_inv
    have N := n1.trans n2
    refine ⟨a, n, vs, rfl, rfl, N.sub _ _ (n2.ext _ _ hp), by omega, by omega, ?_, fun l hl => ?_⟩
    · have h1 : vs.length * n.toNat ≤ 10 * 1000 := Nat.mul_le_mul (by rw [ra.len]; exact hd) (by omega)
      rw [sizeLine_eq]
      omega
    · exact q l _ B3 _ ⟨N.ext, Evl.Ex.mut N.sub (fresh_back N.sub hl), Evl.Ex.mut N.heap (fresh_back N.heap hl), N.fresh⟩ ⟨fresh_back N.heap hl, fresh_back N.sub hl, upd_same⟩ ((ra.mono n2.ext).flat n.toNat)
/-- a tuple of two lists of one's own -/
theorem ep_tup {x : List Int × List Int} {H : Hp} {Q : VK} (e : Ex B H) (h1 : EvL ta σ B (x.1.map .int)) (h2 : EvL tb σ B (x.2.map .int)) (q : ∀ (t : Addr) (e : Pr) B2 H2, New B H B2 H2 → PrOk H B2 H2 (.ref t) e → e.p ≠ e.q → (e.r, e.c) = x → Q (.ref t) H2) :
    tTup (tCons ta (tCons tb tNil)) σ H Q := by
  refine h1 H e _ fun p us B4 H4 n4 o4 ra4 => ?_
  have eus := ra4.ints_inv
  subst eus
  have h2' : EvL tb σ B4 (x.2.map .int) := fun H1 e1 Q q => h2 H1 (n4.ext.trans e1) Q fun p vs B2 H2 n o ra => q p vs (join B4 B2) H2 ⟨join_l, join_sub (e1.trans n.heap) n.sub, n.heap, fun p h1 h2 => by
    unfold join
    rw [h1]
    exact n.fresh p (fresh_back n4.ext h1) h2⟩ ⟨o.h0, by
    unfold join
    have : B4 p = none := fresh_back e1 o.h0
    rw [this]
    exact o.b, o.h⟩ (ra.mono (join_r (e1.trans n.heap) n.sub))
  refine h2' H4 n4.sub _ fun q' us B5 H5 n5 o5 ra5 => ?_
  have eus := ra5.ints_inv
  subst eus
  refine ⟨sz_of (by simp), fun t ht => ?_⟩
  have n45 := n4.trans n5
  have n6 : New B H (upd B5 t (.tup [.ref p, .ref q'])) (upd H5 t (.tup [.ref p, .ref q'])) := n45.trans (New.one n5.sub ht)
  have pt : p ≠ t := fun z => by subst z; rw [(o4.step n5).h] at ht; cases ht
  have qt : q' ≠ t := fun z => by subst z; rw [o5.h] at ht; cases ht
  have pq : p ≠ q' := fun z => by have := o5.h0; rw [← z, o4.h] at this; cases this
  exact q t ⟨p, q', x.1, x.2⟩ _ _ n6 ⟨⟨t, rfl, upd_same⟩, ⟨o4.h0, by rw [upd_ne pt]; exact (o4.step n5).b, by rw [upd_ne pt]; exact (o4.step n5).h⟩, ⟨fresh_back n4.heap o5.h0, by rw [upd_ne qt]; exact o5.b, by rw [upd_ne qt]; exact o5.h⟩⟩ pq rfl
end
section
variable {K : PySem.W.Frag} {σ : L2.St} {B B' H H0 : Hp} {ta tb te : TE} {tl tk : TA} {ds xs zs : List Dt} {D : Ends}
theorem PrOk.back {H1 : Hp} {v : V} {e : Pr} (h : Ex H0 H1) (o : PrOk H1 B H v e) : PrOk H0 B H v e := ⟨o.t, ⟨fresh_back h o.p.h0, o.p.b, o.p.h⟩, ⟨fresh_back h o.q.h0, o.q.b, o.q.h⟩⟩
theorem PrOk.data {t : Addr} {e : Pr} (e0 : Ex B H) (o : PrOk H0 B H (.ref t) e) : R (gB B H [e.p, e.q]) (.ref t) (eSet e.r e.c) := by
  have h := Prs.data (as := [e.p, e.q]) e0 (es := [e]) (fun _ h => h) (fun a h => by
    rcases List.mem_cons.mp h with z | z
    · rw [z]; exact o.p.b
    · rw [List.mem_singleton.mp z]; exact o.q.b) (.cons o .nil)
  cases h with | cons a b => exact a
theorem PrOk.outs {t : Addr} {e : Pr} (o : PrOk H0 B H (.ref t) e) : ∀ a ∈ [e.p, e.q], H0 a = none ∧ B a = none := fun a h => by
  rcases List.mem_cons.mp h with z | z
  · rw [z]; exact ⟨o.p.h0, o.p.b⟩
  · rw [List.mem_singleton.mp z]; exact ⟨o.q.h0, o.q.b⟩
/-- such a call, where no error is due -/
theorem ev_lsK {C : Addr} {g : List Dt → Option (List Int × List Int) → Prop} {gV : List V → List V → List V} {gD : List Dt → List Dt → List Dt} {x : List Int × List Int} (h : EvRA tl σ B xs) (hk : EvRA tk σ B zs) (rel : ∀ B vs ws as bs, RA B vs as → RA B ws bs → as.length = xs.length → bs.length = zs.length → RA B (gV vs ws) (gD as bs)) (hg : g (gD xs zs) (some x)) :
    EvR (tCallK (spS C g) gV (fun _ _ _ => False) tl tk) σ B (eSet x.1 x.2) := fun H1 e Q q => h H1 e _ fun vs B1 H2 n ra => (hk.mono n.ext) H2 n.sub _ fun ws B2 H3 n2 rb =>
  ⟨B2, _, some x, n2.sub, rel B2 vs ws xs zs (ra.mono n2.ext) rb rfl rfl, hg, fun y hy t e' B3 H4 n3 ok ne hx => by
    cases hy
    subst hx
    exact q _ _ H4 (((n.trans n2).trans n3).giveA (ok.back (n.trans n2).heap).outs) (ok.data n3.sub), fun z => nomatch z⟩
/-- isinstance(e, c) in the suite -/
theorem ec_isE {a C : Addr} {n : Nat} {c : V} {cv : Value} {b : Bool} (h : σ[n]? = some (some (.ref a))) (i : ExcC K C) (hcv : ∀ u, RelV c u → u = cv) (hk : PySem.W.kitOne K (.ref C) cv = some b) : EvC (tB (tCB (rIsEx K a (.ref C) none) (tCons (tVar n) (tCons (tC c) tNil)))) σ B b := fun H1 e Q q =>
  ⟨_, h, C, rfl, rfl, i, c, cv, b, rfl, hcv, hk, b, rfl, q H1 (Evl.Ex.refl _)⟩
/-- a promise: a tuple of two lists of one's own, or the text -/
def spO (s : Str) (g : List Dt → Option (List Int × List Int) → Prop) : Sp := fun vs H Q _ => ∃ B as o, Ex B H ∧ RA B vs as ∧ g as o ∧
  (∀ x, o = some x → ∀ (t : Addr) (e : Pr) B2 H2, New B H B2 H2 → PrOk H B2 H2 (.ref t) e → e.p ≠ e.q → (e.r, e.c) = x → Q (.ref t) H2) ∧ (o = none → ∀ H2, Ex H H2 → Q (.str s) H2)
end
end U

namespace U
inductive Wk (F : List Fa) : Nat → Int → Int → Prop
  | nil (v : Int) : Wk F 0 v 0
  | cons {f : Fa} {k : Nat} {s : Int} : f ∈ F → Wk F k f.j s → Wk F (k + 1) f.i (f.l + s)
def FOk (n : Nat) (F : List Fa) : Prop := ∀ f ∈ F, 0 ≤ f.i ∧ f.i < n ∧ 0 ≤ f.j ∧ f.j < n ∧ -6 ≤ f.l ∧ f.l ≤ 6
structure NoR (F : List Fa) : Prop where
  c1 : ∀ f ∈ F, f.i = f.j → f.l ≤ 0
  c2 : ∀ f ∈ F, ∀ g ∈ F, f.j = g.i → g.j = f.i → f.l + g.l ≤ 0
  c3 : ∀ f ∈ F, ∀ g ∈ F, ∀ h ∈ F, f.j = g.i → g.j = h.i → h.j = f.i → f.l + g.l + h.l ≤ 0
theorem Wk.inv {F : List Fa} {k : Nat} {v s : Int} (w : Wk F (k + 1) v s) : ∃ f s1, f ∈ F ∧ v = f.i ∧ s = f.l + s1 ∧ Wk F k f.j s1 := by
  cases w with
  | cons h w => exact ⟨_, _, h, rfl, rfl, w⟩
theorem wk_short {n : Nat} {F : List Fa} (ok : FOk n F) (h1 : 1 ≤ n) (h3 : n ≤ 3) (nr : NoR F) : ∀ (m k : Nat) (v s : Int), k ≤ m → Wk F k v s → ∃ k' s', k' ≤ n - 1 ∧ s ≤ s' ∧ Wk F k' v s'
  | 0, k, v, s, hk, w => ⟨k, s, by omega, Int.le_refl _, w⟩
  | m + 1, k, v, s, hk, w => by
    have again : ∀ (k2 : Nat) (s2 : Int), k2 ≤ m → s ≤ s2 → Wk F k2 v s2 → ∃ k' s', k' ≤ n - 1 ∧ s ≤ s' ∧ Wk F k' v s' := fun k2 s2 h2 hs w2 => by
      obtain ⟨k', s', a, b, c⟩ := wk_short ok h1 h3 nr m k2 v s2 h2 w2
      exact ⟨k', s', a, by omega, c⟩
    by_cases hs : k ≤ n - 1
    · exact ⟨k, s, hs, Int.le_refl _, w⟩
    obtain ⟨k1, rfl⟩ : ∃ k1, k = k1 + 1 := ⟨k - 1, by omega⟩
    obtain ⟨f, s1, hf, rfl, rfl, w1⟩ := w.inv
    have of := ok f hf
    by_cases e1 : f.i = f.j
    · have := nr.c1 f hf e1
      exact again k1 s1 (by omega) (by omega) (e1 ▸ w1)
    have hn1 : n ≠ 1 := fun z => e1 (by omega)
    obtain ⟨k2, rfl⟩ : ∃ k2, k1 = k2 + 1 := ⟨k1 - 1, by omega⟩
    obtain ⟨g, s2, hg, eg, rfl, w2⟩ := w1.inv
    have og := ok g hg
    by_cases e2 : g.i = g.j
    · have := nr.c1 g hg e2
      exact again (k2 + 1) (f.l + s2) (by omega) (by omega) (.cons hf (by rw [eg, e2]; exact w2))
    by_cases e3 : f.i = g.j
    · have := nr.c2 f hf g hg eg e3.symm
      exact again k2 s2 (by omega) (by omega) (e3 ▸ w2)
    have hn2 : n ≠ 2 := fun z => by omega
    obtain ⟨k3, rfl⟩ : ∃ k3, k2 = k3 + 1 := ⟨k2 - 1, by omega⟩
    obtain ⟨h, s3, hh, eh, rfl, w3⟩ := w2.inv
    have oh := ok h hh
    by_cases e4 : h.i = h.j
    · have := nr.c1 h hh e4
      exact again (k3 + 2) (f.l + (g.l + s3)) (by omega) (by omega) (.cons hf (by rw [eg]; exact .cons hg (by rw [eh, e4]; exact w3)))
    by_cases e5 : g.i = h.j
    · have := nr.c2 g hg h hh eh e5.symm
      exact again (k3 + 1) (f.l + s3) (by omega) (by omega) (.cons hf (by rw [eg, e5]; exact w3))
    by_cases e6 : f.i = h.j
    · have := nr.c3 f hf g hg h hh eg eh e6.symm
      exact again k3 s3 (by omega) (by omega) (e6 ▸ w3)
    exfalso
    omega
def vl (v : List Int) (x : Int) : Int := v.getD x.toNat 0
/-- one fact looked at -/
def stp (v : List Int) (f : Fa) : List Int := v.set f.i.toNat (if vl v f.j + f.l < vl v f.i then vl v f.i else vl v f.j + f.l)
def rnds (n : Nat) (F : List Fa) : Nat → List Int
  | 0 => List.replicate n 0
  | k + 1 => F.foldl stp (rnds n F k)
theorem stp_len (v : List Int) (f : Fa) : (stp v f).length = v.length := by unfold stp; rw [List.length_set]
theorem vl_set {v : List Int} {i : Int} {z x : Int} (h0 : 0 ≤ i) (h1 : i < v.length) (hx : 0 ≤ x) : vl (v.set i.toNat z) x = if x = i then z else vl v x := by
  unfold vl
  rw [List.getD_eq_getElem?_getD, List.getD_eq_getElem?_getD, List.getElem?_set]
  by_cases h : x = i
  · subst h
    rw [if_pos rfl, if_pos (by omega), if_pos rfl]; rfl
  · rw [if_neg (by omega), if_neg h]
theorem vl_stp {v : List Int} {f : Fa} {x : Int} (h0 : 0 ≤ f.i) (h1 : f.i < v.length) (hx : 0 ≤ x) : vl (stp v f) x = if x = f.i then (if vl v f.j + f.l < vl v f.i then vl v f.i else vl v f.j + f.l) else vl v x := vl_set h0 h1 hx
theorem stp_mono {v : List Int} {f : Fa} {x : Int} (h0 : 0 ≤ f.i) (h1 : f.i < v.length) (hx : 0 ≤ x) : vl v x ≤ vl (stp v f) x := by
  rw [vl_stp h0 h1 hx]
  split
  · rename_i e
    rw [e]
    split <;> omega
  · omega
section
variable {n : Nat} {F : List Fa}
theorem fold_len : ∀ (L : List Fa) (v : List Int), (L.foldl stp v).length = v.length
  | [], _ => rfl
  | f :: L, v => by rw [List.foldl_cons, fold_len L, stp_len]
theorem fold_mono (ok : FOk n F) : ∀ (L : List Fa) (v : List Int), (∀ f ∈ L, f ∈ F) → v.length = n → ∀ x : Int, 0 ≤ x → vl v x ≤ vl (L.foldl stp v) x
  | [], _, _, _, _, _ => Int.le_refl _
  | f :: L, v, hL, hv, x, hx => by
    have of := ok f (hL f List.mem_cons_self)
    have h1 := stp_mono (v := v) (f := f) (x := x) of.1 (by omega) hx
    have h2 := fold_mono ok L (stp v f) (fun g hg => hL g (List.mem_cons_of_mem _ hg)) (by rw [stp_len]; exact hv) x hx
    rw [List.foldl_cons]
    omega
theorem fold_ge (ok : FOk n F) : ∀ (L : List Fa) (v : List Int), (∀ f ∈ L, f ∈ F) → v.length = n → ∀ f ∈ L, vl v f.j + f.l ≤ vl (L.foldl stp v) f.i
  | [], _, _, _, _, h => by cases h
  | g :: L, v, hL, hv, f, hf => by
    have og := ok g (hL g List.mem_cons_self)
    have hL' : ∀ h ∈ L, h ∈ F := fun h hh => hL h (List.mem_cons_of_mem _ hh)
    have of := ok f (hL f hf)
    rw [List.foldl_cons]
    rcases List.mem_cons.mp hf with e | hf
    · subst e
      have h1 := fold_mono ok L (stp v f) hL' (by rw [stp_len]; exact hv) f.i of.1
      have h2 : vl v f.j + f.l ≤ vl (stp v f) f.i := by
        rw [vl_stp of.1 (by omega) of.1, if_pos rfl]
        split <;> omega
      omega
    · have h1 := fold_ge ok L (stp v g) hL' (by rw [stp_len]; exact hv) f hf
      have h2 := stp_mono (v := v) (f := g) (x := f.j) og.1 (by omega) of.2.2.1
      omega
theorem fold_wk (ok : FOk n F) : ∀ (L : List Fa) (v : List Int), (∀ f ∈ L, f ∈ F) → v.length = n → (∀ x : Int, 0 ≤ x → x < n → ∃ k, Wk F k x (vl v x)) → ∀ x : Int, 0 ≤ x → x < n → ∃ k, Wk F k x (vl (L.foldl stp v) x)
  | [], _, _, _, h => h
  | f :: L, v, hL, hv, h => by
    rw [List.foldl_cons]
    have fm := hL f List.mem_cons_self
    have of := ok f fm
    refine fold_wk ok L (stp v f) (fun g hg => hL g (List.mem_cons_of_mem _ hg)) (by rw [stp_len]; exact hv) fun x h0 h1 => ?_
    rw [vl_stp of.1 (by omega) h0]
    by_cases e : x = f.i
    · rw [if_pos e]
      split
      · rw [← e]; exact h x h0 h1
      · obtain ⟨k, w⟩ := h f.j of.2.2.1 of.2.2.2.1
        refine ⟨k + 1, ?_⟩
        rw [e, Int.add_comm]
        exact .cons fm w
    · rw [if_neg e]; exact h x h0 h1
theorem vl_zero (x : Int) : vl (List.replicate n 0) x = 0 := by
  unfold vl
  rw [List.getD_eq_getElem?_getD, List.getElem?_replicate]
  split <;> rfl
theorem rnds_ok (ok : FOk n F) : ∀ r, (rnds n F r).length = n ∧ (∀ x : Int, 0 ≤ x → x < n → ∃ k, Wk F k x (vl (rnds n F r) x)) ∧ ∀ (k : Nat) (x s : Int), 0 ≤ x → k ≤ r → Wk F k x s → s ≤ vl (rnds n F r) x
  | 0 => ⟨by rw [rnds, List.length_replicate], fun x _ _ => ⟨0, by rw [rnds, vl_zero]; exact .nil x⟩, fun k x s _ hk w => by
    have e : k = 0 := by omega
    subst e
    cases w
    rw [rnds, vl_zero]; omega⟩
  | r + 1 => by
    obtain ⟨h1, h2, h3⟩ := rnds_ok ok r
    have hF : ∀ f ∈ F, f ∈ F := fun _ h => h
    refine ⟨by rw [rnds, fold_len]; exact h1, fold_wk ok F _ hF h1 h2, fun k x s hx hk w => ?_⟩
    rw [rnds]
    cases k with
    | zero =>
      have a := h3 0 x s hx (by omega) w
      have b := fold_mono ok F (rnds n F r) hF h1 x hx
      omega
    | succ k =>
      obtain ⟨f, s1, hf, rfl, rfl, w1⟩ := w.inv
      have of := ok f hf
      have a := h3 k f.j s1 of.2.2.1 (by omega) w1
      have b := fold_ge ok F (rnds n F r) hF h1 f hf
      omega
theorem wk_le (ok : FOk n F) : ∀ {k : Nat} {v s : Int}, Wk F k v s → s ≤ 6 * k
  | _, _, _, .nil _ => by omega
  | _, _, _, .cons (k := k) (s := s) h w => by
    have := wk_le ok w
    have := ok _ h
    omega
/-- a row keeps the facts -/
def Kp (F : List Fa) (c : List Int) : Prop := ∀ f ∈ F, vl c f.j + f.l ≤ vl c f.i
theorem wk_kp {c : List Int} (kp : Kp F c) (pos : ∀ x, 0 ≤ vl c x) : ∀ {k : Nat} {v s : Int}, Wk F k v s → s ≤ vl c v
  | _, _, _, .nil v => pos v
  | _, _, _, .cons h w => by
    have h1 := wk_kp kp pos w
    have h2 := kp _ h
    omega
def bf (n : Nat) (F : List Fa) : List Int := rnds n F (n - 1)
/-- what the least row is -/
structure Best (n : Nat) (F : List Fa) (b : List Int) : Prop where
  len : b.length = n
  kp : Kp F b
  lo : ∀ x, 0 ≤ vl b x
  hi : ∀ x, vl b x ≤ 6 * ((n : Int) - 1)
  least : ∀ c : List Int, Kp F c → (∀ x, 0 ≤ vl c x) → ∀ x, vl b x ≤ vl c x
  zero : ∃ i : Nat, b[i]? = some 0
theorem vl_out {b : List Int} {x : Int} (h : (b.length : Int) ≤ x) : vl b x = 0 := by
  unfold vl
  rw [List.getD_eq_getElem?_getD, List.getElem?_eq_none (by omega)]; rfl
theorem vl_neg {b : List Int} {x : Int} (h : x ≤ 0) : vl b x = vl b 0 := by
  unfold vl
  rw [show x.toNat = (0 : Int).toNat by omega]
theorem best (ok : FOk n F) (h1 : 1 ≤ n) (h3 : n ≤ 3) (nr : NoR F) : Best n F (bf n F) := by
  obtain ⟨l1, l2, l3⟩ := rnds_ok ok (n - 1)
  have lo0 : ∀ x : Int, 0 ≤ x → 0 ≤ vl (bf n F) x := fun x hx => l3 0 x 0 hx (by omega) (.nil x)
  have lo : ∀ x, 0 ≤ vl (bf n F) x := fun x => by
    by_cases h : 0 ≤ x
    · exact lo0 x h
    · rw [vl_neg (by omega)]; exact lo0 0 (by omega)
  have kp : Kp F (bf n F) := fun f hf => by
    have of := ok f hf
    obtain ⟨k, w⟩ := l2 f.j of.2.2.1 of.2.2.2.1
    obtain ⟨k', s', a, b, w'⟩ := wk_short ok h1 h3 nr (k + 1) (k + 1) f.i _ (Nat.le_refl _) (Wk.cons hf w)
    have := l3 k' f.i s' of.1 a w'
    unfold bf
    omega
  have least : ∀ c : List Int, Kp F c → (∀ x, 0 ≤ vl c x) → ∀ x, vl (bf n F) x ≤ vl c x := fun c kc pc x => by
    have main : ∀ x : Int, 0 ≤ x → vl (bf n F) x ≤ vl c x := fun x h0 => by
      by_cases hx : x < n
      · obtain ⟨k, w⟩ := l2 x h0 hx
        exact wk_kp kc pc w
      · rw [vl_out (by unfold bf; omega)]; exact pc x
    by_cases h : 0 ≤ x
    · exact main x h
    · rw [vl_neg (by omega), vl_neg (b := c) (by omega)]; exact main 0 (by omega)
  refine ⟨l1, kp, lo, fun x => ?_, least, ?_⟩
  · have main : ∀ x : Int, 0 ≤ x → vl (bf n F) x ≤ 6 * ((n : Int) - 1) := fun x h0 => by
      by_cases hx : x < n
      · obtain ⟨k, w⟩ := l2 x h0 hx
        obtain ⟨k', s', a, b, w'⟩ := wk_short ok h1 h3 nr k k x _ (Nat.le_refl _) w
        have := wk_le ok w'
        unfold bf
        omega
      · rw [vl_out (by unfold bf; omega)]; omega
    by_cases h : 0 ≤ x
    · exact main x h
    · rw [vl_neg (by omega)]; exact main 0 (by omega)
  · refine Classical.byContradiction fun hno => ?_
    have all1 : ∀ x : Int, 0 ≤ x → x < n → 1 ≤ vl (bf n F) x := fun x h0 hx => by
      have a := lo x
      refine Classical.byContradiction fun z => hno ⟨x.toNat, ?_⟩
      have e : vl (bf n F) x = 0 := by omega
      unfold vl at e
      rw [List.getD_eq_getElem?_getD, List.getElem?_eq_getElem (by unfold bf; omega)] at e
      rw [List.getElem?_eq_getElem (by unfold bf; omega)]
      exact congrArg some e
    have vm : ∀ x : Int, 0 ≤ x → x < n → vl ((bf n F).map (· - 1)) x = vl (bf n F) x - 1 := fun x h0 hx => by
      unfold vl
      rw [List.getD_eq_getElem?_getD, List.getD_eq_getElem?_getD, List.getElem?_map, List.getElem?_eq_getElem (by unfold bf; omega)]; rfl
    have c0 := least ((bf n F).map (· - 1)) (fun f hf => by
      have of := ok f hf
      have := kp f hf
      rw [vm f.j of.2.2.1 of.2.2.2.1, vm f.i of.1 of.2.1]
      omega) (fun x => by
      have main : ∀ x : Int, 0 ≤ x → 0 ≤ vl ((bf n F).map (· - 1)) x := fun x h0 => by
        by_cases hx : x < n
        · rw [vm x h0 hx]; have := all1 x h0 hx; omega
        · rw [vl_out (by rw [List.length_map]; unfold bf; omega)]; omega
      by_cases h : 0 ≤ x
      · exact main x h
      · rw [vl_neg (by omega)]; exact main 0 (by omega)) 0
    rw [vm 0 (by omega) (by omega)] at c0
    omega
end
/-! ### all rows, one after another -/
abbrev rI' (r : List Nat) : List Int := r.map fun k : Nat => (k : Int)
def lsts (M : Nat) : Nat → List (List Nat)
  | 0 => [[]]
  | k + 1 => (lsts M k).flatMap fun row => (List.range (M + 1)).map fun v => row ++ [v]
def ltR : List Nat → List Nat → Bool
  | x :: xs, y :: ys => decide (x < y) || (decide (x = y) && ltR xs ys)
  | _, _ => false
theorem lsts_len {M : Nat} : ∀ k, ∀ r ∈ lsts M k, r.length = k
  | 0, r, h => by rw [List.mem_singleton.mp h]; rfl
  | k + 1, r, h => by
    obtain ⟨q, hq, h⟩ := List.mem_flatMap.mp h
    obtain ⟨v, _, rfl⟩ := List.mem_map.mp h
    rw [List.length_append, lsts_len k q hq]; rfl
theorem lsts_le {M : Nat} : ∀ k, ∀ r ∈ lsts M k, ∀ x ∈ r, x ≤ M
  | 0, r, h, x, hx => by rw [List.mem_singleton.mp h] at hx; cases hx
  | k + 1, r, h, x, hx => by
    obtain ⟨q, hq, h⟩ := List.mem_flatMap.mp h
    obtain ⟨v, hv, rfl⟩ := List.mem_map.mp h
    rcases List.mem_append.mp hx with hx | hx
    · exact lsts_le k q hq x hx
    · rw [List.mem_singleton.mp hx]; have := List.mem_range.mp hv; omega
theorem lsts_many (M : Nat) : ∀ k, (lsts M k).length = (M + 1) ^ k
  | 0 => rfl
  | k + 1 => by
    rw [lsts, List.length_flatMap]
    have : ∀ l : List (List Nat), (l.map fun a => ((List.range (M + 1)).map fun v => a ++ [v]).length).sum = l.length * (M + 1) := fun l => by
      induction l with
      | nil => simp
      | cons a l ih => rw [List.map_cons, List.sum_cons, ih, List.length_map, List.length_range, List.length_cons, Nat.succ_mul, Nat.add_comm]
    rw [this, lsts_many M k, Nat.pow_succ]
theorem lsts_mem {M : Nat} : ∀ (k : Nat) (r : List Nat), r.length = k → (∀ x ∈ r, x ≤ M) → r ∈ lsts M k
  | 0, r, h, _ => by rw [List.length_eq_zero_iff.mp h]; exact List.mem_singleton.mpr rfl
  | k + 1, r, h, hx => by
    have hne : r ≠ [] := fun z => by rw [z] at h; cases h
    refine List.mem_flatMap.mpr ⟨r.dropLast, lsts_mem k _ (by rw [List.length_dropLast]; omega) fun x hm => hx x ((List.dropLast_sublist r).subset hm), List.mem_map.mpr ⟨r.getLast hne, List.mem_range.mpr (by have := hx _ (List.getLast_mem hne); omega), List.dropLast_concat_getLast hne⟩⟩
theorem ltR_snoc : ∀ {a b : List Nat} {x y : Nat}, a.length = b.length → (ltR a b = true ∨ (a = b ∧ x < y)) → ltR (a ++ [x]) (b ++ [y]) = true
  | [], [], x, y, _, h => by
    rcases h with h | h
    · simp [ltR] at h
    · simp [ltR, h.2]
  | [], _ :: _, _, _, h, _ => by cases h
  | _ :: _, [], _, _, h, _ => by cases h
  | p :: a, q :: b, x, y, hl, h => by
    rw [List.cons_append, List.cons_append, ltR]
    rcases h with h | ⟨h, hxy⟩
    · rw [ltR, Bool.or_eq_true, Bool.and_eq_true, decide_eq_true_eq, decide_eq_true_eq] at h
      rcases h with h | ⟨h, k⟩
      · rw [decide_eq_true h]; rfl
      · rw [decide_eq_true h, ltR_snoc (by simpa using hl) (.inl k)]; simp
    · have e := List.cons.inj h
      rw [decide_eq_true e.1, ltR_snoc (by simpa using hl) (.inr ⟨e.2, hxy⟩)]; simp
theorem lsts_pw (M : Nat) : ∀ k, (lsts M k).Pairwise fun a b => ltR a b = true
  | 0 => by simp [lsts]
  | k + 1 => by
    have ih := lsts_pw M k
    have hl := lsts_len (M := M) k
    rw [lsts]
    generalize lsts M k = l at ih hl
    induction l with
    | nil => exact .nil
    | cons a l ih2 =>
      rw [List.flatMap_cons]
      have p := List.pairwise_cons.mp ih
      refine List.pairwise_append.mpr ⟨List.pairwise_map.mpr ?_, ih2 p.2 (fun r h => hl r (List.mem_cons_of_mem _ h)), fun x hx y hy => ?_⟩
      · exact List.pairwise_lt_range.imp fun h => ltR_snoc rfl (.inr ⟨rfl, h⟩)
      · obtain ⟨v, _, rfl⟩ := List.mem_map.mp hx
        obtain ⟨b, hb, hy⟩ := List.mem_flatMap.mp hy
        obtain ⟨u, _, rfl⟩ := List.mem_map.mp hy
        exact ltR_snoc (by rw [hl a List.mem_cons_self, hl b (List.mem_cons_of_mem _ hb)]) (.inl (p.1 b hb))
theorem ltR_no : ∀ {a b : List Nat}, (∀ i : Nat, b.getD i 0 ≤ a.getD i 0) → ltR a b = false
  | [], _, _ => by simp [ltR]
  | _ :: _, [], _ => by simp [ltR]
  | x :: a, y :: b, h => by
    have h0 : y ≤ x := h 0
    have ht : ∀ i : Nat, b.getD i 0 ≤ a.getD i 0 := fun i => h (i + 1)
    rw [ltR, ltR_no ht, decide_eq_false (by omega)]
    simp
theorem vl_rI (r : List Nat) (x : Int) : vl (rI' r) x = (r.getD x.toNat 0 : Nat) := by
  unfold vl
  rw [List.getD_eq_getElem?_getD, List.getD_eq_getElem?_getD, List.getElem?_map]
  cases r[x.toNat]? <;> rfl
instance {F : List Fa} {c : List Int} : Decidable (Kp F c) := by unfold Kp; infer_instance
/-- the rows that the law goes through -/
def cand (n : Nat) (F : List Fa) : List (List Nat) := ((lsts (6 * (n - 1)) n).filter fun r => r.contains 0).filter fun r => decide (Kp F (rI' r))
theorem cand_none {n : Nat} {F : List Fa} (h : ∀ c : List Int, ¬ Kp F c) : cand n F = [] :=
  List.filter_eq_nil_iff.mpr fun r _ z => h _ (of_decide_eq_true z)
theorem cand_first {n : Nat} {F : List Fa} (ok : FOk n F) (h1 : 1 ≤ n) (h3 : n ≤ 3) (nr : NoR F) : ∃ b rest, cand n F = b :: rest ∧ rI' b = bf n F := by
  have B := best ok h1 h3 nr
  have eb : rI' ((bf n F).map Int.toNat) = bf n F := by
    rw [rI', List.map_map]
    conv => rhs; rw [← List.map_id (bf n F)]
    refine List.map_congr_left fun x hx => ?_
    obtain ⟨i, hi⟩ := List.mem_iff_getElem?.mp hx
    have h := B.lo (i : Int)
    unfold vl at h
    rw [Int.toNat_natCast, List.getD_eq_getElem?_getD, hi] at h
    have h : 0 ≤ x := h
    show ((x.toNat : Nat) : Int) = x
    omega
  have hmem : (bf n F).map Int.toNat ∈ cand n F := by
    refine List.mem_filter.mpr ⟨List.mem_filter.mpr ⟨lsts_mem n _ (by rw [List.length_map]; exact B.len) fun x hx => ?_, ?_⟩, ?_⟩
    · obtain ⟨y, hy, rfl⟩ := List.mem_map.mp hx
      obtain ⟨i, hi⟩ := List.mem_iff_getElem?.mp hy
      have h := B.hi (i : Int)
      unfold vl at h
      rw [Int.toNat_natCast, List.getD_eq_getElem?_getD, hi] at h
      have h : y ≤ 6 * ((n : Int) - 1) := h
      omega
    · rw [List.contains_iff_mem]
      obtain ⟨i, hi⟩ := B.zero
      exact List.mem_map.mpr ⟨0, List.mem_of_getElem? hi, rfl⟩
    · rw [eb]; exact decide_eq_true B.kp
  have pw : (cand n F).Pairwise fun a b => ltR a b = true := ((lsts_pw (6 * (n - 1)) n).filter _).filter _
  cases e : cand n F with
  | nil => rw [e] at hmem; cases hmem
  | cons x rest =>
    refine ⟨x, rest, rfl, ?_⟩
    rw [e] at hmem pw
    rcases List.mem_cons.mp hmem with h | h
    · rw [← h]; exact eb
    · exfalso
      have lt := (List.pairwise_cons.mp pw).1 _ h
      have xk : Kp F (rI' x) := by
        have : x ∈ cand n F := by rw [e]; exact List.mem_cons_self
        exact of_decide_eq_true (List.mem_filter.mp this).2
      have le := B.least (rI' x) xk (fun y => by rw [vl_rI]; omega)
      rw [ltR_no] at lt
      · cases lt
      · intro i
        have h2 := le (i : Int)
        rw [vl_rI, Int.toNat_natCast, ← eb, vl_rI, Int.toNat_natCast] at h2
        omega
end U

namespace U
open PySem L2
open Evl (Ex fresh_back sz_of sz_lt sq_of st_of rLenS rListS)
theorem hu65 {k : Nat} {A : Around} (r : Room k A) : A.units + 65 < cLine := by have := r.un; omega
theorem k_notinD {X : Cx} {K : PySem.W.Frag} (h : X.K = K) (hu : X.A.units + 65 < cLine) : OpR X (compareOp .NotIn) (rNotInD K) := h ▸ op_notInD hu
theorem any_py (f : PyData → Bool) : ∀ ds : List Dt, (pyAll ds).any f = ds.any fun z => f z.py
  | [] => by simp [pyAll]
  | d :: ds => by rw [pyAll, List.any_cons, List.any_cons, any_py f ds]
theorem rv_notinD {K : PySem.W.Frag} {x : Dt} {ds : List Dt} (hx : SeqAt.shaped x.py = true) (hd : SeqAt.shaped (Dt.lst ds).py = true) : RV (rNotInD K) x (.lst ds) (.bl (!ds.any fun z => PyData.eqv z.py x.py)) := fun B H1 v w e r1 r2 Q q => by
  have h2 := (r2.mono e).dp (K := K) (shaped_cln hd)
  rw [Dt.py] at h2
  refine ⟨x.py, pyAll ds, (r1.mono e).dp (shaped_cln hx), h2, hx, by rw [Dt.py] at hd; exact hd, ?_⟩
  rw [any_py]
  exact q _ B H1 (New.refl e) (.bl _)
theorem eqv_set (a b c d : List Int) : PyData.eqv (eSet a b).py (eSet c d).py = (decide (a = c) && decide (b = d)) := by
  have e1 : (eSet a b).py = .tuple [(eI a).py, (eI b).py] := by simp only [Dt.py, pyAll]
  have e2 : (eSet c d).py = .tuple [(eI c).py, (eI d).py] := by simp only [Dt.py, pyAll]
  rw [e1, e2]
  simp only [PyData.eqv, PyData.eqvAll]
  rw [eqv_eI, eqv_eI, Bool.and_true]
theorem sets_lay : ∀ (l : List (List Int × List Int)), PyData.canLayAll0 (pyAll (l.map fun x => eSet x.1 x.2)) = true ∧ depAll (l.map fun x => eSet x.1 x.2) ≤ 2
  | [] => ⟨by simp [pyAll, PyData.canLayAll0], by simp [depAll]⟩
  | x :: l => by
    obtain ⟨h1, h2⟩ := sets_lay l
    refine ⟨?_, ?_⟩
    · rw [List.map_cons, pyAll, PyData.canLayAll0, h1, Dt.py, PyData.canLay0, pyAll, pyAll, pyAll, PyData.canLayAll0, PyData.canLayAll0, PyData.canLayAll0, Dt.py, Dt.py, PyData.canLay0, PyData.canLay0, canLay_ints, canLay_ints]; rfl
    · rw [List.map_cons, depAll, Dt.dep, depAll, depAll, depAll, Dt.dep, Dt.dep, depAll_ints, depAll_ints]; omega
theorem shaped_sets {l : List (List Int × List Int)} : SeqAt.shaped (Dt.lst (l.map fun x => eSet x.1 x.2)).py = true := by
  obtain ⟨h1, h2⟩ := sets_lay l
  unfold SeqAt.shaped
  rw [dep_py, Dt.dep, Dt.py, PyData.canLay0, h1]
  simp only [Bool.true_and, decide_eq_true_eq]
  omega
theorem shaped_set {a b : List Int} : SeqAt.shaped (eSet a b).py = true := by
  unfold SeqAt.shaped
  rw [dep_py, Dt.dep, depAll, depAll, depAll, Dt.dep, Dt.dep, depAll_ints, depAll_ints, Dt.py, PyData.canLay0, pyAll, pyAll, pyAll, PyData.canLayAll0, PyData.canLayAll0, PyData.canLayAll0, Dt.py, Dt.py, PyData.canLay0, PyData.canLay0, canLay_ints, canLay_ints]
  rfl
theorem toks_no : ∀ (a b : List Int), a.length = b.length → (∀ i : Nat, b.getD i 0 ≤ a.getD i 0) → PyProof.Rows.lexLt PyProof.Rows.itemOrd (PySem.W.keyToksAll (pyAll (a.map Dt.int))) (PySem.W.keyToksAll (pyAll (b.map Dt.int))) = false
  | [], [], _, _ => by
    have h := PySem.W.lex_pre (PySem.W.keyToksAll (pyAll (([] : List Int).map Dt.int))) [] []
    rw [List.append_nil] at h
    rw [h]; rfl
  | [], _ :: _, h, _ => by cases h
  | _ :: _, [], h, _ => by cases h
  | x :: a, y :: b, h, hp => by
    have hal : PySem.W.alike (Dt.int x).py (Dt.int y).py = true := by rw [Dt.py, Dt.py, PySem.W.alike]
    have h0 : y ≤ x := hp 0
    have ht : ∀ i : Nat, b.getD i 0 ≤ a.getD i 0 := fun i => hp (i + 1)
    rw [List.map_cons, List.map_cons, pyAll, pyAll]
    by_cases hxy : x = y
    · subst hxy
      rw [PySem.W.dataLt_all_yes hal (PySem.W.eqv_refl_alike _ hal)]
      exact toks_no a b (by simpa using h) ht
    · have hne : PyData.eqv (Dt.int x).py (Dt.int y).py = false := by
        have : PyData.eqvAll [(Dt.int x).py] [(Dt.int y).py] = false := by
          have h2 := eqv_ints [x] [y]
          rw [decide_eq_false (fun z => hxy (List.cons.inj z).1)] at h2
          exact h2
        rw [PyData.eqvAll, PyData.eqvAll, Bool.and_true] at this
        exact this
      rw [PySem.W.dataLt_all_no hal hne, Dt.py, Dt.py, PySem.W.dataLt_int]
      exact decide_eq_false (by omega)
theorem set_no {a b c d : List Int} (l1 : a.length = b.length) (l2 : c.length = d.length) (h1 : ∀ i : Nat, b.getD i 0 ≤ a.getD i 0) (h2 : ∀ i : Nat, d.getD i 0 ≤ c.getD i 0) : PySem.W.dataLt (eSet a c).py (eSet b d).py = false ∧ PySem.W.alike (eSet a c).py (eSet b d).py = true ∧ (eSet a c).py ≠ .none ∧ min (eSet a c).py.depth (eSet b d).py.depth ≤ 60 := by
  have e1 : (eSet a c).py = .tuple [(eI a).py, (eI c).py] := by simp only [Dt.py, pyAll]
  have e2 : (eSet b d).py = .tuple [(eI b).py, (eI d).py] := by simp only [Dt.py, pyAll]
  have al1 := alike_eI a b
  have al2 := alike_eI c d
  refine ⟨?_, ?_, by rw [e1]; simp, ?_⟩
  · rw [e1, e2, PySem.W.dataLt_tuple]
    by_cases hab : a = b
    · subst hab
      rw [PySem.W.dataLt_all_yes al1 (PySem.W.eqv_refl_alike _ al1)]
      by_cases hcd : c = d
      · subst hcd
        rw [PySem.W.dataLt_all_yes al2 (PySem.W.eqv_refl_alike _ al2)]
        have h := PySem.W.lex_pre (PySem.W.keyToksAll []) [] []
        rw [List.append_nil] at h
        rw [h]; rfl
      · rw [PySem.W.dataLt_all_no al2 (by rw [eqv_eI, decide_eq_false hcd]), Dt.py, Dt.py, PySem.W.dataLt_list]
        exact toks_no c d l2 h2
    · rw [PySem.W.dataLt_all_no al1 (by rw [eqv_eI, decide_eq_false hab]), Dt.py, Dt.py, PySem.W.dataLt_list]
      exact toks_no a b l1 h1
  · rw [e1, e2, PySem.W.alike, PySem.W.alikeAll, PySem.W.alikeAll, PySem.W.alikeAll, al1, al2]; rfl
  · rw [dep_py]
    have : (eSet a c).dep = 2 := by rw [Dt.dep, depAll, depAll, depAll, Dt.dep, Dt.dep, depAll_ints, depAll_ints]; rfl
    omega
/-! ### gaps -/
theorem clo_gap {w : Int} {ns : List Int} {f : Int → Int} (hf : IsClo w ns f) (hw : 0 ≤ w) : ∀ (n : Nat) (a b : Int), a ∈ ns → b ∈ ns → a ≤ b → (b - a).toNat ≤ n → min (b - a) (w + 1) ≤ f b - f a ∧ f b - f a ≤ b - a
  | 0, a, b, ha, hb, h, hn => by
    have : a = b := by omega
    subst this
    omega
  | n + 1, a, b, ha, hb, h, hn => by
    by_cases hab : a = b
    · subst hab; omega
    · cases hp : pre ns b with
      | none => have := pre_none hp a ha; omega
      | some c =>
        obtain ⟨h1, h2, h3⟩ := pre_some hp
        have hac : a ≤ c := by rcases h3 a ha with z | z <;> omega
        have e := hf.2 c h1 b hb h2 h3
        obtain ⟨i1, i2⟩ := clo_gap hf hw n a c ha h1 hac (by omega)
        omega
theorem clo_two {w : Int} {ns : List Int} (hw : 0 ≤ w) {a b : Int} (ha : a ∈ ns) (hb : b ∈ ns) : (a ≤ b → min (b - a) (w + 1) ≤ clo w ns b - clo w ns a ∧ clo w ns b - clo w ns a ≤ b - a) ∧ (b ≤ a → min (a - b) (w + 1) ≤ clo w ns a - clo w ns b ∧ clo w ns a - clo w ns b ≤ a - b) :=
  ⟨fun h => clo_gap (clo_is w ns) hw _ a b ha hb h (Nat.le_refl _), fun h => clo_gap (clo_is w ns) hw _ b a hb ha h (Nat.le_refl _)⟩
theorem cloR_getD {w : Int} {ns : List Int} {i : Nat} (h : i < ns.length) : (cloR w ns).getD i 0 = clo w ns (ns.getD i 0) := by
  rw [List.getD_eq_getElem?_getD, List.getD_eq_getElem?_getD, cloR, List.getElem?_map, List.getElem?_eq_getElem h]; rfl
theorem getD_mem {ns : List Int} {i : Nat} (h : i < ns.length) : ns.getD i 0 ∈ ns := by
  rw [List.getD_eq_getElem?_getD, List.getElem?_eq_getElem h]
  exact List.getElem_mem _
/-- differences of two places -/
theorem cloR_two {w : Int} {ns : List Int} (hw : 0 ≤ w) {i j : Nat} (hi : i < ns.length) (hj : j < ns.length) : (ns.getD i 0 ≤ ns.getD j 0 → min (ns.getD j 0 - ns.getD i 0) (w + 1) ≤ (cloR w ns).getD j 0 - (cloR w ns).getD i 0 ∧ (cloR w ns).getD j 0 - (cloR w ns).getD i 0 ≤ ns.getD j 0 - ns.getD i 0) ∧
    (ns.getD j 0 ≤ ns.getD i 0 → min (ns.getD i 0 - ns.getD j 0) (w + 1) ≤ (cloR w ns).getD i 0 - (cloR w ns).getD j 0 ∧ (cloR w ns).getD i 0 - (cloR w ns).getD j 0 ≤ ns.getD i 0 - ns.getD j 0) := by
  rw [cloR_getD hi, cloR_getD hj]
  exact clo_two hw (getD_mem hi) (getD_mem hj)
theorem cloR_lo {w : Int} {ns : List Int} (hw : 0 ≤ w) : ∀ x ∈ cloR w ns, 0 ≤ x := fun x hx => by
  obtain ⟨y, hy, rfl⟩ := List.mem_map.mp hx
  exact (clo_range (clo_is w ns) hw _ y hy (Nat.le_refl _)).1
theorem cloR_zero {w : Int} {ns : List Int} (hn : ns ≠ []) : (0 : Int) ∈ cloR w ns :=
  List.mem_map.mpr ⟨minL ns, minL_mem hn, (clo_is w ns).1 _ (minL_mem hn) fun _ h => minL_le h⟩
theorem cloR_min {w : Int} {ns : List Int} (hw : 0 ≤ w) (hn : ns ≠ []) : minL (cloR w ns) = 0 :=
  (minL_eq (cloR_zero hn) fun y hy => cloR_lo hw y hy).symm
theorem cloR_up {w : Int} {ns : List Int} (hw : 0 ≤ w) (i : Nat) : (cloR w ns).getD i 0 ≤ (ns.map fun v => v - minL ns).getD i 0 := by
  by_cases hi : i < ns.length
  · rw [cloR_getD hi]
    have h := (clo_range (clo_is w ns) hw _ _ (getD_mem hi) (Nat.le_refl _)).2
    have e : (ns.map fun v => v - minL ns).getD i 0 = ns.getD i 0 - minL ns := by
      rw [List.getD_eq_getElem?_getD, List.getD_eq_getElem?_getD, List.getElem?_map, List.getElem?_eq_getElem hi]; rfl
    rw [e]
    exact h
  · rw [List.getD_eq_getElem?_getD, List.getD_eq_getElem?_getD, List.getElem?_eq_none (by rw [cloR_len]; omega), List.getElem?_eq_none (by rw [List.length_map]; omega)]
    exact Int.le_refl _
end U

namespace U
open PySem L2
open Evl (Ex fresh_back sz_of sz_lt sq_of st_of rLenS rListS)
mutual
/-- no list or tuple in it is longer than 1,000 -/
def Dt.okz : Dt → Bool
  | .lst xs | .tup xs => decide (xs.length ≤ 1000) && okzAll xs
  | _ => true
def okzAll : List Dt → Bool
  | [] => true
  | x :: xs => Dt.okz x && okzAll xs
end
theorem okz_mem : ∀ {xs : List Dt} {x : Dt}, okzAll xs = true → x ∈ xs → x.okz = true
  | y :: xs, x, h, hm => by
    rw [okzAll, Bool.and_eq_true] at h
    rcases List.mem_cons.mp hm with e | e
    · rw [e]; exact h.1
    · exact okz_mem h.2 e
theorem okz_lst {xs : List Dt} (h : (Dt.lst xs).okz = true) : xs.length ≤ 1000 ∧ okzAll xs = true := by
  rw [Dt.okz, Bool.and_eq_true, decide_eq_true_eq] at h; exact h
theorem okz_tup {xs : List Dt} (h : (Dt.tup xs).okz = true) : xs.length ≤ 1000 ∧ okzAll xs = true := by
  rw [Dt.okz, Bool.and_eq_true, decide_eq_true_eq] at h; exact h
section
variable {K : PySem.W.Frag} {σ : L2.St} {B B' H : Hp} {ta te : TE} {tl : TA} {d : Dt} {ds : List Dt} {D : Ends} {j : Nat}
theorem cutFrom (vs : List V) (m : Int) (h : 0 ≤ m) : cutV vs (some m) none = vs.drop m.toNat := by
  obtain ⟨k, rfl⟩ := Int.eq_ofNat_of_zero_le h
  have e1 : HT.sIx vs.length vs.length none = vs.length := HT.sIx_none _ _
  have e2 : HT.sIx vs.length 0 (some (k : Int)) = min k vs.length := HT.sIx_nat _ _ k
  unfold cutV
  rw [e1]
  show ((vs.drop (HT.sIx vs.length 0 (some (k : Int)))).take (vs.length - HT.sIx vs.length 0 (some (k : Int)))) = _
  rw [e2, Int.toNat_natCast, List.take_of_length_le (by rw [List.length_drop]; omega)]
  by_cases h : k ≤ vs.length
  · rw [Nat.min_eq_left h]
  · rw [Nat.min_eq_right (by omega), List.drop_of_length_le (Nat.le_refl _), List.drop_of_length_le (by omega)]
/-- e[n:] -/
theorem ev_slFr {tb : TE} {m : Int} (h : EvR ta σ B (.lst ds)) (hi : EvR tb σ B (.int m)) (h0 : 0 ≤ m) : EvR (tSl (rSlL K) ta (tPart tb) tNoPart) σ B (.lst (ds.drop m.toNat)) := fun H1 e Q q =>
  h H1 e _ fun v B1 H2 n rv => (hi.mono n.ext) H2 n.sub _ fun w B2 H3 n2 rw => by
    obtain ⟨p, vs, rfl, hp, ra⟩ := rv.lst_inv
    have hp2 := n2.ext _ _ hp
    refine ⟨m, rw.int_inv, p, vs, rfl, sq_of (n2.sub _ _ hp2), fun p2 hp3 => ?_⟩
    rw [cutFrom vs m h0]
    exact q _ (upd B2 p2 (.lst (vs.drop m.toNat))) _ ((n.trans n2).trans (New.one n2.sub hp3)) (.lst upd_same (((ra.mono n2.ext).drop _).mono (Evl.Ex.new (fresh_back n2.sub hp3))))
/-- X('no') as a value -/
theorem ev_exc {C : Addr} (h : EvR ta σ B d) : EvR (fun σ H Q => ta σ H fun _ H1 => ∀ a, H1 a = none → Q (.ref a) (upd H1 a (ExO (.ref C) a))) σ B (.exc C) := fun H1 e Q q =>
  h H1 e _ fun v B2 H2 n rv a ha => q _ (upd B2 a (ExO (.ref C) a)) _ (n.trans (New.one n.sub ha)) (.exc (.inl upd_same))
theorem q_lcD {l : List Dt} {f : Dt → Dt} {vs : List Nat} (h : EvR ta σ B d) (it : Items d l) (hz : l.length < 100000) (hw : ∀ x, wipe ((wipe σ vs).set j (some x)) vs = wipe σ vs)
    (he : ∀ q v B1, q ∈ l → Ex B B1 → R B1 v q → EvR te ((wipe σ vs).set j (some v)) B1 (f q)) : EvR (tLc (iSeq K ta) (gName j) tYes te vs) σ B (.lst (l.map f)) :=
  q_lc1 (enc := fun x => x) h (by rw [List.map_id']; exact it) hz hw he
end
/-- a promise: nothing is returned, or the error C -/
def spE (C : Addr) (g : List Dt → Bool → Prop) : Sp := fun vs H Q E => ∃ B as b, Ex B H ∧ RA B vs as ∧ g as b ∧ (b = true → ∀ H2, Ex H H2 → Q .non H2) ∧ (b = false → ∀ H2, Ex H H2 → E (.ref C) none H2)
/-- a promise: a truth value, or the error C -/
def spB (C : Addr) (g : List Dt → Option Bool → Prop) : Sp := fun vs H Q E => ∃ B as o, Ex B H ∧ RA B vs as ∧ g as o ∧ (∀ b, o = some b → ∀ H2, Ex H H2 → Q (.bl b) H2) ∧ (o = none → ∀ H2, Ex H H2 → E (.ref C) none H2)
section
variable {σ : L2.St} {B H : Hp} {tl tk : TA} {xs zs : List Dt} {D : Ends} {C : Addr}
theorem ev_B {g : List Dt → Option Bool → Prop} {E : XK} {b : Bool} (h : EvRA tl σ B xs) (hg : g xs (some b)) : EvR (tCall (spB C g) [] E tl) σ B (.bl b) := fun H1 e Q q => h H1 e _ fun vs B1 H2 n ra =>
  ⟨B1, xs, some b, n.sub, by rw [List.append_nil]; exact ra, hg, fun c hc H3 e3 => by cases hc; exact q _ B1 H3 (n.trans (New.grow (n.sub.trans e3) e3 n.sub)) (.bl _), fun z => nomatch z⟩
theorem ev_BK {g : List Dt → Option Bool → Prop} {E : XK} {b : Bool} {gV : List V → List V → List V} {gD : List Dt → List Dt → List Dt} (h : EvRA tl σ B xs) (hk : EvRA tk σ B zs) (rel : ∀ B vs ws as bs, RA B vs as → RA B ws bs → as.length = xs.length → bs.length = zs.length → RA B (gV vs ws) (gD as bs)) (hg : g (gD xs zs) (some b)) :
    EvR (tCallK (spB C g) gV E tl tk) σ B (.bl b) := fun H1 e Q q => h H1 e _ fun vs B1 H2 n ra => (hk.mono n.ext) H2 n.sub _ fun ws B2 H3 n2 rb =>
  ⟨B2, _, some b, n2.sub, rel B2 vs ws xs zs (ra.mono n2.ext) rb rfl rfl, hg, fun c hc H4 e4 => by cases hc; exact q _ B2 H4 ((n.trans n2).trans (New.grow (n2.sub.trans e4) e4 n2.sub)) (.bl _), fun z => nomatch z⟩
/-- need_x(..) as a statement -/
theorem s_need {g : List Dt → Bool → Prop} {E : XK} {b : Bool} (e : Ex B H) (h : EvRA tl σ B xs) (hg : g xs b) (h1 : b = true → ∀ H1, Up B H H1 → D.nx σ H1) (h2 : b = false → ∀ H1, Ex H H1 → E (.ref C) none H1) : tDrop (tCall (spE C g) [] E tl) D σ H := h H e _ fun vs B1 H2 n ra =>
  ⟨B1, xs, b, n.sub, by rw [List.append_nil]; exact ra, hg, fun hb H3 e3 => h1 hb H3 ⟨e, (e.trans n.heap).trans e3, n.heap.trans e3⟩, fun hb H3 e3 => h2 hb H3 (n.heap.trans e3)⟩
end
end U

namespace U
open PySem PySem.Spec PyProof.Rows L2
open Evl (Ex fresh_back sz_of sz_lt sq_of st_of rLenS rListS ex_l)
/-- ** of a great base -/
def CPowW (i j : Int) : Prop := 0 ≤ j ∧ (Builtin.Int.intBits i : Int) * j ≤ 2 ^ 27
section
variable {X : Cx}
theorem op_powW : OpR X (binaryOp .Pow) (rI CPowW fun i j => .int (i ^ j.toNat)) := opI fun _ _ _ _ _ _ _ hc q => pow_int hc.1 hc.2 q
end
section
variable {i j : Int}
theorem rv_powW (h : CPowW i j) : RV (rI CPowW fun i j => .int (i ^ j.toNat)) (.int i) (.int j) (.int (i ^ j.toNat)) := rv_I (g' := fun i j => .int (i ^ j.toNat)) (fun _ _ _ => .int _) h
theorem rv_divW (h : CDivW i j) : RV (rI CDivW fun i j => .int (i / j)) (.int i) (.int j) (.int (i / j)) := rv_I (g' := fun i j => .int (i / j)) (fun _ _ _ => .int _) h
end
/-- all but what stands at p and q stays -/
def But (p q : Addr) (H H' : Hp) : Prop := ∀ a u, a ≠ p → a ≠ q → H a = some u → H' a = some u
theorem But.refl {p q : Addr} {H : Hp} : But p q H H := fun _ _ _ _ h => h
theorem But.of {p q : Addr} {H H' : Hp} (e : Ex H H') : But p q H H' := fun a u _ _ h => e a u h
theorem But.trans {p q : Addr} {H H1 H2 : Hp} (a : But p q H H1) (b : But p q H1 H2) : But p q H H2 := fun x u h1 h2 h => b x u h1 h2 (a x u h1 h2 h)
theorem But.updp {p q : Addr} {H : Hp} {u : HO} : But p q H (upd H p u) := fun a v h1 _ h => by rw [upd_ne h1]; exact h
theorem But.updq {p q : Addr} {H : Hp} {u : HO} : But p q H (upd H q u) := fun a v _ h2 h => by rw [upd_ne h2]; exact h
theorem But.ex {p q : Addr} {B H H' : Hp} (b : But p q H H') (e : Ex B H) (hp : B p = none) (hq : B q = none) : Ex B H' := fun a u h =>
  b a u (fun z => by subst z; rw [hp] at h; cases h) (fun z => by subst z; rw [hq] at h; cases h) (e a u h)
/-- what the deck holds -/
structure DkAt (p q : Addr) (H : Hp) (ns : List Int) (i s c : Int) : Prop where
  ne : p ≠ q
  hp : H p = some (.lst [.ref q, .int i, .int s, .int c])
  hq : H q = some (.lst (ns.map V.int))
  nn : ∀ n ∈ ns, 0 ≤ n
  len : ns.length ≤ 63
  i0 : 0 ≤ i
  s0 : 0 ≤ s
  s1 : s < 2147483647
def Dk (p q : Addr) (H : Hp) : Prop := ∃ ns i s c, DkAt p q H ns i s c
section
variable {p q : Addr} {B B1 B2 H H' H1 H2 : Hp} {ns : List Int} {i s c : Int}
theorem DkAt.ex (e : Ex H H') (d : DkAt p q H ns i s c) : DkAt p q H' ns i s c := ⟨d.ne, e _ _ d.hp, e _ _ d.hq, d.nn, d.len, d.i0, d.s0, d.s1⟩
theorem Dk.ex (e : Ex H H') (d : Dk p q H) : Dk p q H' := by obtain ⟨_, _, _, _, d⟩ := d; exact ⟨_, _, _, _, d.ex e⟩
theorem Dk.np (d : Dk p q H) : H p ≠ none := by obtain ⟨_, _, _, _, d⟩ := d; rw [d.hp]; exact fun z => nomatch z
theorem Dk.nq (d : Dk p q H) : H q ≠ none := by obtain ⟨_, _, _, _, d⟩ := d; rw [d.hq]; exact fun z => nomatch z
/-- from (B, H) to (B', H'), the deck perhaps changed -/
structure NewD (p q : Addr) (B H B' H' : Hp) : Prop where
  ext : Ex B B'
  sub : Ex B' H'
  heap : But p q H H'
  fresh : ∀ a, B a = none → H a ≠ none → B' a = none
theorem New.d (n : New B H B1 H1) : NewD p q B H B1 H1 := ⟨n.ext, n.sub, But.of n.heap, n.fresh⟩
theorem NewD.refl (e : Ex B H) : NewD p q B H B H := (New.refl e).d
theorem NewD.trans (d : Dk p q H1) (a : NewD p q B H B1 H1) (b : NewD p q B1 H1 B2 H2) : NewD p q B H B2 H2 :=
  ⟨a.ext.trans b.ext, b.sub, a.heap.trans b.heap, fun x h1 h2 => b.fresh x (a.fresh x h1 h2) fun h3 => by
    by_cases hp : x = p
    · subst hp; exact d.np h3
    · by_cases hq : x = q
      · subst hq; exact d.nq h3
      · cases z : H x with
        | none => exact h2 z
        | some o => rw [a.heap x o hp hq z] at h3; cases h3⟩
/-- the deck is none of the data -/
structure Out (p q : Addr) (B : Hp) : Prop where
  p : B p = none
  q : B q = none
theorem NewD.out (d : Dk p q H) (o : Out p q B) (n : NewD p q B H B1 H1) : Out p q B1 := ⟨n.fresh p o.p d.np, n.fresh q o.q d.nq⟩
theorem New.out (d : Dk p q H) (o : Out p q B) (n : New B H B1 H1) : Out p q B1 := ⟨n.fresh p o.p d.np, n.fresh q o.q d.nq⟩
/-- the data and the deck, read together -/
def dkB (p q : Addr) (B : Hp) (ns : List Int) (i s c : Int) : Hp := upd (upd B p (.lst [.ref q, .int i, .int s, .int c])) q (.lst (ns.map V.int))
theorem DkAt.sub (d : DkAt p q H ns i s c) (e : Ex B H) : Ex (dkB p q B ns i s c) H := fun a u h => by
  unfold dkB at h
  by_cases hq : a = q
  · subst hq; rw [upd_same] at h; cases h; exact d.hq
  · rw [upd_ne hq] at h
    by_cases hp : a = p
    · subst hp; rw [upd_same] at h; cases h; exact d.hp
    · rw [upd_ne hp] at h; exact e a u h
theorem dkB_at (ne : p ≠ q) : dkB p q B ns i s c p = some (.lst [.ref q, .int i, .int s, .int c]) := by
  unfold dkB
  rw [upd_ne ne, upd_same]
theorem dkB_q : dkB p q B ns i s c q = some (.lst (ns.map V.int)) := by
  unfold dkB
  rw [upd_same]
theorem dkB_R (ne : p ≠ q) : R (dkB p q B ns i s c) (.ref p) (.lst [.lst (ns.map .int), .int i, .int s, .int c]) :=
  .lst (dkB_at ne) (.cons (.lst dkB_q (RA.ints ns)) (.cons (.int _) (.cons (.int _) (.cons (.int _) .nil))))
end

/-! ### what may draw from the deck -/
def EvK (p q : Addr) (te : TE) (σ : L2.St) (B : Hp) (P : Dt → Prop) : Prop := ∀ B1 H1, Ex B B1 → Ex B1 H1 → Out p q B1 → Dk p q H1 → ∀ Q : VK, (∀ v B2 H2 d, P d → NewD p q B1 H1 B2 H2 → Dk p q H2 → R B2 v d → Q v H2) → te σ H1 Q
def EvKA (p q : Addr) (ta : TA) (σ : L2.St) (B : Hp) (P : List Dt → Prop) : Prop := ∀ B1 H1, Ex B B1 → Ex B1 H1 → Out p q B1 → Dk p q H1 → ∀ Q : List V → Hp → Prop, (∀ vs B2 H2 ds, P ds → NewD p q B1 H1 B2 H2 → Dk p q H2 → RA B2 vs ds → Q vs H2) → ta σ H1 Q
/-- a promise: a number below m is drawn -/
def spTake : Sp := fun vs H Q _ => ∃ (p q : Addr) (m : Int), vs = [.ref p, .int m] ∧ 0 < m ∧ m < 2 ^ 900 ∧ Dk p q H ∧ ∀ r H2, 0 ≤ r → r < m → But p q H H2 → Dk p q H2 → Q (.int r) H2
section
variable {K : PySem.W.Frag} {p q : Addr} {σ : L2.St} {B H : Hp} {ta tb te : TE} {tl tr : TA} {d x y : Dt} {ds : List Dt} {P P1 P2 : Dt → Prop} {PL PR : List Dt → Prop} {r : R2} {D : Ends} {n i : Nat}
theorem EvK.up {B' : Hp} (e : Ex B B') (h : EvK p q te σ B P) : EvK p q te σ B' P := fun B1 H1 e1 => h B1 H1 (e.trans e1)
theorem EvK.imp (h : EvK p q te σ B P) (g : ∀ d, P d → P1 d) : EvK p q te σ B P1 := fun B1 H1 e1 e2 o k Q c => h B1 H1 e1 e2 o k Q fun v B2 H2 d hd => c v B2 H2 d (g d hd)
theorem ek_R (h : EvR te σ B d) (hp : P d) : EvK p q te σ B P := fun B1 H1 e1 e2 o k Q c => (h.mono e1) H1 e2 Q fun v B2 H2 n rv => c v B2 H2 d hp n.d (k.ex n.heap) rv
theorem eka_R (h : EvRA tl σ B ds) (hp : PL ds) : EvKA p q tl σ B PL := fun B1 H1 e1 e2 o k Q c => (h.mono e1) H1 e2 Q fun v B2 H2 n rv => c v B2 H2 ds hp n.d (k.ex n.heap) rv
theorem ek_op (ha : EvK p q ta σ B P1) (hb : EvK p q tb σ B P2) (hr : ∀ x y, P1 x → P2 y → ∃ z, P z ∧ RV r x y z) : EvK p q (tOp r ta tb) σ B P := fun B1 H1 e1 e2 o k Q c =>
  ha B1 H1 e1 e2 o k _ fun v B2 H2 x px n1 k1 rx => hb B2 H2 (e1.trans n1.ext) n1.sub (n1.out k o) k1 _ fun w B3 H3 y py n2 k2 ry => by
    obtain ⟨z, pz, rz⟩ := hr x y px py
    exact rz B3 H3 v w n2.sub (rx.mono n2.ext) ry Q fun u B4 H4 n3 ru => c u B4 H4 z pz (NewD.trans k2 (NewD.trans k1 n1 n2) n3.d) (k2.ex n3.heap) ru
theorem eka_nil : EvKA p q tNil σ B (fun ds => ds = []) := fun B1 H1 e1 e2 o k Q c => c [] B1 H1 [] rfl (NewD.refl e2) k .nil
theorem eka_cons (h : EvK p q te σ B P) (hr : EvKA p q tr σ B PR) : EvKA p q (tCons te tr) σ B (fun ds => ∃ d es, ds = d :: es ∧ P d ∧ PR es) := fun B1 H1 e1 e2 o k Q c =>
  h B1 H1 e1 e2 o k _ fun v B2 H2 x px n1 k1 rx => hr B2 H2 (e1.trans n1.ext) n1.sub (n1.out k o) k1 _ fun vs B3 H3 es pe n2 k2 re =>
    c (v :: vs) B3 H3 (x :: es) ⟨x, es, rfl, px, pe⟩ (NewD.trans k1 n1 n2) k2 (.cons (rx.mono n2.ext) re)
theorem EvKA.imp {PL' : List Dt → Prop} (h : EvKA p q tl σ B PL) (g : ∀ d, PL d → PL' d) : EvKA p q tl σ B PL' := fun B1 H1 e1 e2 o k Q c => h B1 H1 e1 e2 o k Q fun v B2 H2 d hd => c v B2 H2 d (g d hd)
theorem ek_tup (h : EvKA p q tl σ B PL) (hl : ∀ ds, PL ds → ds.length ≤ 100000 ∧ P (.tup ds)) : EvK p q (tTup tl) σ B P := fun B1 H1 e1 e2 o k Q c =>
  h B1 H1 e1 e2 o k _ fun vs B2 H2 ds pd n1 k1 rv => ⟨by rw [rv.len]; exact sz_of (hl ds pd).1, fun a ha => by
    have N : New B2 H2 (upd B2 a (.tup vs)) (upd H2 a (.tup vs)) := New.one n1.sub ha
    exact c _ (upd B2 a (.tup vs)) _ (.tup ds) (hl ds pd).2 (NewD.trans k1 n1 N.d) (k1.ex N.heap) (.tup upd_same (rv.mono N.ext))⟩
theorem ek_lst (h : EvKA p q tl σ B PL) (hl : ∀ ds, PL ds → ds.length ≤ 100000 ∧ P (.lst ds)) : EvK p q (tLst tl) σ B P := fun B1 H1 e1 e2 o k Q c =>
  h B1 H1 e1 e2 o k _ fun vs B2 H2 ds pd n1 k1 rv => ⟨by rw [rv.len]; exact sz_of (hl ds pd).1, fun a ha => by
    have N : New B2 H2 (upd B2 a (.lst vs)) (upd H2 a (.lst vs)) := New.one n1.sub ha
    exact c _ (upd B2 a (.lst vs)) _ (.lst ds) (hl ds pd).2 (NewD.trans k1 n1 N.d) (k1.ex N.heap) (.lst upd_same (rv.mono N.ext))⟩
/-- a draw -/
theorem ek_take {E : XK} {m : Int} (hv : σ[n]? = some (some (.ref p))) (h : EvR te σ B (.int m)) (h0 : 0 < m) (h1 : m < 2 ^ 900) : EvK p q (tCall spTake [] E (tCons (tVar n) (tCons te tNil))) σ B (fun d => ∃ r, d = .int r ∧ 0 ≤ r ∧ r < m) := fun B1 H1 e1 e2 o k Q c =>
  ⟨_, hv, (h.mono e1) H1 e2 _ fun w B2 H2 n2 rw => by
    cases rw
    refine ⟨p, q, m, rfl, h0, h1, k.ex n2.heap, fun r H3 r0 r1 b dk => ?_⟩
    have o2 := n2.out k o
    exact c (.int r) B2 H3 (.int r) ⟨r, rfl, r0, r1⟩ ⟨n2.ext, b.ex n2.sub o2.p o2.q, (But.of n2.heap).trans b, n2.fresh⟩ dk (.int r)⟩
/-- x = e -/
theorem s_asgK (e : Ex B H) (o : Out p q B) (k : Dk p q H) (h : EvK p q te σ B P) (c : ∀ v B1 H1 d, P d → NewD p q B H B1 H1 → Out p q B1 → Dk p q H1 → R B1 v d → D.nx (σ.set i (some v)) H1) : tAsg te (gName i) D σ H :=
  h B H (Ex.refl B) e o k _ fun v B2 H2 d pd n1 k1 rv => c v B2 H2 d pd n1 (n1.out k o) k1 rv
/-- return e -/
theorem s_retK (e : Ex B H) (o : Out p q B) (k : Dk p q H) (h : EvK p q te σ B P) (c : ∀ v B1 H1 d, P d → NewD p q B H B1 H1 → Out p q B1 → Dk p q H1 → R B1 v d → D.rt v H1) : tRet te D σ H :=
  h B H (Ex.refl B) e o k _ fun v B2 H2 d pd n1 k1 rv => c v B2 H2 d pd n1 (n1.out k o) k1 rv
theorem s_forK {g : TG} {tu : TS} (e : Ex B H) (o : Out p q B) (k : Dk p q H) (h : EvK p q te σ B P) (c : ∀ v B1 H1 d, P d → NewD p q B H B1 H1 → Dk p q H1 → R B1 v d → tFor (iSeq K (fun _ H Q => Q v H)) g tu D σ H1) : tFor (iSeq K te) g tu D σ H :=
  h B H (Ex.refl B) e o k _ fun v B1 H1 d pd n k1 rv => c v B1 H1 d pd n k1 rv
theorem ev_val {v : V} (rv : R B v d) : EvR (fun _ H Q => Q v H) σ B d := fun H1 e Q c => c v B H1 (New.refl e) rv
/-- the deck's own rows: deck[k] = e -/
theorem s_setD {ti : TE} {k : Int} {j : Nat} {xs : List V} {z : Int} (e : Ex B H) (hv : σ[n]? = some (some (.ref p))) (hp : B p = some (.lst xs)) (h : EvR te σ B (.int z)) (hi : EvR ti σ B (.int k)) (hj : ixN xs.length k = some j)
    (c : ∀ H2, Ex H H2 → D.nx σ (upd H2 p (.lst (xs.set j (.int z))))) : tAsg te (gSub (tVar n) ti L2.rSetL) D σ H := h H e _ fun v B1 H1 n1 rv => by
  cases rv
  exact ⟨.ref p, hv, (hi.mono n1.ext) H1 n1.sub _ fun w B2 H2 n2 rw => by
    cases rw
    exact ⟨p, xs, k, j, rfl, rfl, n2.sub _ _ (n2.ext _ _ (n1.ext _ _ hp)), hj, c H2 (n1.heap.trans n2.heap)⟩⟩
/-- deck[0][k] = e -/
theorem s_setDD {ti : TE} {k : Int} {j : Nat} {xs rest : List V} {z : Int} (e : Ex B H) (hv : σ[n]? = some (some (.ref p))) (hp : B p = some (.lst (.ref q :: rest))) (hq : B q = some (.lst xs)) (h : EvR te σ B (.int z)) (hi : EvR ti σ B (.int k)) (hj : ixN xs.length k = some j)
    (c : ∀ H2, Ex H H2 → D.nx σ (upd H2 q (.lst (xs.set j (.int z))))) : tAsg te (gSub (tOp (rIx K) (tVar n) (tC (.int 0))) ti L2.rSetL) D σ H := h H e _ fun v B1 H1 n1 rv => by
  cases rv
  refine ⟨.ref p, hv, .inl ⟨p, .ref q :: rest, 0, .ref q, rfl, rfl, sq_of (n1.sub _ _ (n1.ext _ _ hp)), atI_nat' (m := 0) rfl, ?_⟩⟩
  exact (hi.mono n1.ext) H1 n1.sub _ fun w B2 H2 n2 rw => by
    cases rw
    exact ⟨q, xs, k, j, rfl, rfl, n2.sub _ _ (n2.ext _ _ (n1.ext _ _ hq)), hj, c H2 (n1.heap.trans n2.heap)⟩
/-- script[:m] -/
theorem ev_slToS {a : Addr} {ns : List Int} {m : Int} (hv : σ[n]? = some (some (.ref a))) (hs : SqL K B a (ns.map V.int)) (hi : EvR tb σ B (.int m)) (h0 : 0 ≤ m) : EvR (tSl (rSlL K) (tVar n) tNoPart (tPart tb)) σ B (.lst ((ns.take m.toNat).map .int)) := fun H1 e Q c =>
  ⟨_, hv, hi H1 e _ fun w B2 H2 n2 rw => by
    refine ⟨m, rw.int_inv, a, ns.map V.int, rfl, ex_l n2.sub (ex_l n2.ext hs), fun p2 hp3 => ?_⟩
    rw [cutTo _ m h0]
    have := c (.ref p2) (upd B2 p2 (.lst ((ns.map V.int).take m.toNat))) _ (n2.trans (New.one n2.sub hp3)) (.lst upd_same (by rw [← List.map_take]; exact RA.ints _))
    exact this⟩
end
end U

namespace U
open PySem PySem.Spec PyProof.Rows L2 PySem.HandSPX
section
variable {prog : Program} {w : World} {A : Around} {Z : Value → Shared → Prop} {R : Result → Shared → Prop} {hp : Heap} {gs : Array GenState} {dr : Drawn} {tk : Nat} {so : OsState}
variable {nm q : Str} {C N fI : Addr} {bs bm bmB : List Value} {hdct : Bool} {sn : List Str} {sub : List Value} {ab : Bool} {col : Option Bool} {dd : Option Addr} {k0 k1 k2 k3 k5 : Option Value} {B newId initId : String} {kw : List (Str × Value)}
/-- the check of C.__new__ with keywords alone -/
theorem newK_check (F : ExcBaseFacts B newId initId bmB) (sees : ∀ y : String, bm.contains (.type y) = bmB.contains (.type y)) {G : Unit → Shared → Prop} {M : Model}
    (at_ : hp.get? C = some (excClassObj nm q C N bs bm hdct sn sub ab col dd k0 k1 k2 k3 k5 newId)) (go : G () ⟨hp, gs, dr, tk, so⟩) : wpAny M A (checkBuiltinCall newId ⟨[.ref C], kw⟩) G Z ⟨hp, gs, dr, tk, so⟩ := by
  have inB : (Value.ref C :: bm).contains (.type B) = true := by rw [List.contains_cons, sees, F.hasB, Bool.or_true]
  have := F.noStar
  simp only [checkBuiltinCall, F.newKind, F.newSplit, F.newRow]
  repeat (first
    | refine wpAny_loadPart_at at_ ?_
    | (refine wpAny_isSubtype_exc at_ ?_
       rw [inB])
    | refine wpAny_staticBase_exc at_ ?_
    | refine wpAny_madeBy_exc at_ ?_
    | simp only [bne_self_eq_false, Bool.false_eq_true, if_false]
    | wp_step)
  exact go

/-- C.__new__ with keywords alone: a new exception without arguments -/
theorem newK_goes (F : ExcBaseFacts B newId initId bmB) (sees : ∀ y : String, bm.contains (.type y) = bmB.contains (.type y)) (at_ : hp.get? C = some (excClassObj nm q C N bs bm hdct sn sub ab col dd k0 k1 k2 k3 k5 newId))
    (go : R (.ok (.ret (.ref (hp.objs.size + 1)))) ⟨(hp.push (W.kdv_tup [])).push (excO C hp.objs.size), gs, dr, tk, so⟩) : codeAny (model prog w) A (.builtin newId ⟨[.ref C], kw⟩) R ⟨hp, gs, dr, tk, so⟩ := by
  have := F.ends
  have inB : (Value.ref C :: bm).contains (.type B) = true := by rw [List.contains_cons, sees, F.hasB, Bool.or_true]
  have notA : (Value.ref C :: bm).contains (.type "AttributeError") = false := by
    rw [List.contains_cons, sees, F.noAttr]
    rfl
  have notN : (Value.ref C :: bm).contains (.type "NameError") = false := by
    rw [List.contains_cons, sees, F.noName]
    rfl
  have fits : ([] : List Value).length ≤ sizeLine := Nat.zero_le _
  apply PySem.codeAny_builtinAt F.entry
  unfold Builtin.«BaseException.__new__»
  apply PySem.wpAt_bind
  refine (show PySem.wpAt _ _ _ (stack >>= _) _ _ _ from PySem.wpAt_bind (PySem.wpAt_stack fun _ _ => PySem.wpAt_of_wpAny ?_))
  wp_walk
  apply PySem.wpAt_of_wpAny
  rw [F.owner]
  repeat (first
    | with_reducible refine wpAny_madeHere_exc F.canon at_ ?_
    | with_reducible refine wpAny_loadPart_at at_ ?_
    | (with_reducible refine wpAny_isSubtype_exc at_ ?_
       first
         | rw [inB]
         | rw [notA]
         | rw [notN])
    | wp_step)
  refine (show R _ _ from ?_)
  rw [Heap.size_push]
  exact go

/-- type.__call__ of C with keywords alone -/
theorem callK_type (F : ExcBaseFacts B newId initId bmB) (sees : ∀ y : String, bm.contains (.type y) = bmB.contains (.type y)) {G : Fin → Shared → Prop} (at_ : hp.get? C = some (excClassObj nm q C N bs bm hdct sn sub ab col dd k0 k1 k2 k3 k5 newId))
    (ini : W.Looks (model prog w) hp (typeLookup (.ref C) "__init__") (some (.ref fI))) (bnd : ∀ self, W.Looks (model prog w) hp (bindSpecial (.ref fI) self) (.ref fI, [self]))
    (go : codeAny (model prog w) A (.call (.ref fI) ⟨[.ref (hp.objs.size + 1)], kw⟩) (fun r s' => match r with
      | .ok (.ret v) => v = .none ∧ G (.done (.ret (.ref (hp.objs.size + 1)))) s'
      | .ok _ => False
      | .error e => Z e s') ⟨(hp.push (W.kdv_tup [])).push (excO C hp.objs.size), gs, dr, tk, so⟩) :
    wpAny (model prog w) A (Builtin.«type.__call__» ⟨[.ref C], kw⟩) G Z ⟨hp, gs, dr, tk, so⟩ := by
  repeat (first
    | with_reducible refine wpAny_loadPart_at at_ ?_
    | with_reducible refine wpAny_madeBy_exc at_ ?_
    | wp_step)
  refine codeAny_call_builtin_code (Code.quiet_builtin _ F.quiet) (newK_check F sees at_ (newK_goes F sees at_ ?_))
  refine (show wpAny _ _ _ _ _ _ from ?_)
  have old : ∀ b o, hp.get? b = some o → ((hp.push (W.kdv_tup [])).push (excO C hp.objs.size)).get? b = some o := fun b o z => Heap.get?_push_of_some _ (Heap.get?_push_of_some _ z)
  have at2 := old _ _ at_
  have its : ((hp.push (W.kdv_tup [])).push (excO C hp.objs.size)).get? (hp.objs.size + 1) = some (excO C hp.objs.size) := by heap_get
  have inC : (Value.ref C :: bm).contains (.ref C) = true := by simp
  have ini2 := ini.keeps old
  have bnd2 := (bnd (.ref (hp.objs.size + 1))).keeps old
  unfold isInstance
  repeat (first
    | with_reducible refine wpAny_loadPart_at its ?_
    | (with_reducible refine wpAny_isSubtype_exc at2 ?_
       rw [inC])
    | wp_step)
  refine (show wpAny _ _ (typeLookup (.ref C) _) _ _ _ from ini2.at (wpAny_holding (wpAny_bind (bnd2.at (wpAny_bind (wpAny_call (codeAny_mono go fun r s' z => ?_)))))))
  match r, z with
  | .error e, z => exact z
  | .ok .next, z => exact z.elim
  | .ok .brk, z => exact z.elim
  | .ok .cont, z => exact z.elim
  | .ok (.ret v), ⟨hv, z⟩ =>
    subst hv
    first
      | exact wpAny_pure (wpAny_pure z)
      | (wp_walk
         exact z)
theorem callK_goes (F : ExcBaseFacts B newId initId bmB) (sees : ∀ y : String, bm.contains (.type y) = bmB.contains (.type y)) (at_ : hp.get? C = some (excClassObj nm q C N bs bm hdct sn sub ab col dd k0 k1 k2 k3 k5 newId))
    (ini : W.Looks (model prog w) hp (typeLookup (.ref C) "__init__") (some (.ref fI))) (bnd : ∀ self, W.Looks (model prog w) hp (bindSpecial (.ref fI) self) (.ref fI, [self]))
    (go : codeAny (model prog w) (A.under (.builtin "type.__call__" ⟨[.ref C], kw⟩)) (.call (.ref fI) ⟨[.ref (hp.objs.size + 1)], kw⟩) (W.InitBack (hp.objs.size + 1) R) ⟨(hp.push (W.kdv_tup [])).push (excO C hp.objs.size), gs, dr, tk, so⟩) :
    codeAny (model prog w) A (.call (.ref C) ⟨[], kw⟩) R ⟨hp, gs, dr, tk, so⟩ := by
  have := tc_lookup
  have := tc_bind (.ref C)
  have : (⟨hp, gs, dr, tk, so⟩ : Shared).TypeIs (.ref C) "type" := ⟨_, at_, rfl⟩
  apply codeAny_of_tree
  refine (show wpAny _ _ (callAny (.ref C) _) _ _ _ from ?_)
  repeat (any_goals (first
    | assumption
    | with_reducible refine wpAny_loadPart_at at_ ?_
    | wp_step))
  refine ⟨rfl, codeAny_call_builtin_at (Code.quiet_builtin _ (by decide +kernel)) entry_typeCall (wpAny_check_type_call_sub at_ (callK_type F sees at_ ini bnd (codeAny_mono go fun r s' z => ?_)))⟩
  rcases r with e | (v | _ | _ | _) <;> exact z
end
end U

namespace U
open PySem PySem.Spec PyProof.Rows L2
open Evl (Ex fresh_back sz_of sz_lt sq_of st_of rLenS rListS ex_l)
/-- isinstance(e, c), e an error that is held -/
def rIsX (K : PySem.W.Frag) : List V → Hp → VK → Prop := fun xs H Q => ∃ (a C : Addr) (c : V) (cv : Value) (b : Bool), xs = [.ref a, c] ∧ HasE H a C ∧ ExcC K C ∧ (∀ u, RelV c u → u = cv) ∧ PySem.W.kitOne K (.ref C) cv = some b ∧ Q (.bl b) H
theorem call_isX {X : Cx} : CallR X (.builtin "isinstance") (rIsX X.K) := by
  intro pins s σ H xs us Q I r h
  obtain ⟨a, C, c, cv, b, rfl, he, ec, hcv, hk, q⟩ := h
  obtain ⟨u1, u2, rfl, r1, r2⟩ := vals2 r
  cases (show u1 = Value.ref a from r1)
  have e2 := hcv _ r2
  subst e2
  obtain ⟨oe, od, J⟩ := inst_of I he
  obtain ⟨cd, hc, _⟩ := PySem.W.any_some ec.hd
  exact PySem.W.kia_one (PySem.W.kitx_exc (by rw [hc] <;> rfl) ec.hg ec.hk ec.hs ec.ha ec.hn ec.ht ec.hm) I.kIn J hk (fun z => nomatch z) fun tk => ⟨.bl b, H, I.tok tk, rfl, q⟩
theorem k_isX {K : PySem.W.Frag} {X : Cx} (h : X.K = K) : CallR X (.builtin "isinstance") (rIsX K) := h ▸ call_isX
section
variable {K : PySem.W.Frag} {σ : L2.St} {B H : Hp} {ta te : TE} {C : Addr} {c : V} {cv : Value} {b : Bool} {d : Dt}
theorem ev_isX (h : EvR ta σ B (.exc C)) (ec : ExcC K C) (hcv : ∀ u, RelV c u → u = cv) (hk : PySem.W.kitOne K (.ref C) cv = some b) : EvR (tCB (rIsX K) (tCons ta (tCons (tC c) tNil))) σ B (.bl b) := fun H1 e Q q => h H1 e _ fun v B2 H2 n rv => by
  cases rv with
  | exc hE => exact ⟨_, C, c, cv, b, rfl, hE.mono n.sub, ec, hcv, hk, q _ B2 H2 n (.bl b)⟩
end
/-- an own error class whose __init__ keeps its argument in the field place -/
structure TextC (K : PySem.W.Frag) (C fI : Addr) : Prop where
  o : OexC K C
  iC : PySem.W.findIn K (.ref C) "__init__" = some (some (.ref fI))
  tI : PySem.W.typeIn K (.ref fI) = some (.type "function")
  no : PySem.W.findIn K (.ref C) "place" = some none
  xf : XfC K C
/-- a promise of such an __init__ -/
def spInit (K : PySem.W.Frag) : Sp := fun vs H Q _ => ∃ (a C : Addr) (x : V), vs = [.ref a, x] ∧ OexC K C ∧ PySem.W.findIn K (.ref C) "place" = some none ∧ H a = some (exo a C none) ∧
  ∀ dx, H dx = none → dx ≠ a → Q .non (upd (upd H dx (exd dx [("place", x)])) a (exo a C (some dx)))
/-- C(e), C(place=e) as a value -/
def tMkV (K : PySem.W.Frag) (C : Addr) (ta : TA) : TE := fun σ H Q => ta σ H fun vs H1 => ∃ x, vs = [x] ∧ ∀ a dx, H1 a = none → H1 dx = none → dx ≠ a → Q (.ref a) (upd (upd H1 dx (exd dx [("place", x)])) a (exo a C (some dx)))
section
variable {X : Cx} {x : Str} {C fI : Addr} {k : Nat} {fd : FuncData} {e : Expr} {ta : TA} {p pos : Pos}
theorem upd_swap {H : Hp} {a b : Addr} {u v w : HO} (h : a ≠ b) : upd (upd (upd H a u) b v) a w = upd (upd H b v) a w := by
  funext c
  by_cases h1 : c = a
  · subst h1; rw [upd_same, upd_same]
  · by_cases h2 : c = b
    · subst h2; rw [upd_ne h1, upd_same, upd_ne h1, upd_same]
    · rw [upd_ne h1, upd_ne h2, upd_ne h1, upd_ne h1, upd_ne h2]
theorem init_asked {K : PySem.W.Frag} {H1 : Hp} {a : Addr} {y : V} {Q : VK} (o : OexC K C) (no : PySem.W.findIn K (.ref C) "place" = some none) (hn : H1 a = none) (q : ∀ a dx, H1 a = none → H1 dx = none → dx ≠ a → Q (.ref a) (upd (upd H1 dx (exd dx [("place", y)])) a (exo a C (some dx)))) :
    spInit K [.ref a, y] (upd H1 a (exo a C none)) (fun v H2 => v = .non ∧ Q (.ref a) H2) fun _ _ _ => False := by
  refine ⟨a, C, y, rfl, o, no, upd_same, fun dx hd ne => ⟨rfl, ?_⟩⟩
  rw [upd_swap (Ne.symm ne)]
  refine q a dx hn ?_ ne
  rw [upd_ne ne] at hd
  exact hd
theorem pe_oexV (T : TextC X.K C fI) (F : FnG X.prog X.w X.K X.mg X.base CX0 k fI fd ["self", "place"] (spInit X.K)) (g : X.A.guards = some []) (room : Room (k + 1) X.A) (hb : Binds X.K fd ["self", "place"] []) (glob : Gl X x) (at_ : X.mg x = some (.ref C)) (ha : PA X [e] ta)
    (nd : (x == ("__debug__" : Str)) = false := by decide) (he : starEach [e] X.env = (false, eval e X.env) :: starEach [] X.env := by rfl) (plain : (backTo pos (starEach [] X.env)).any (·.1) = false := by rfl) :
    PE X (.Call (.Name x p) [e] [] pos) (tMkV X.K C ta) := by
  constructor
  intro pins s σ H Q I h
  obtain ⟨nm, q, N, bs, bm, sn, sub, ab, col, dd, k0, k1, k2, k3, k5, hC, hbm⟩ := T.o.cls
  apply wpAny_Call_Name_kw (ld_glob I glob at_ _ nd)
  refine PySem.W.callWith_K (h₀ := X.base) I.ok.mod.kin T.o.kC (thn (ha.run pos pins s σ H _ I h) ?_) he plain
  rintro us s1 ⟨vs, H1, I1, r1, y, rfl, q1⟩
  refine ⟨I1.kIn, ?_⟩
  obtain ⟨hp, gs, dr, tk, os⟩ := s1
  have fr : H1 (hp.objs.size + 1) = none := I1.hok.fresh (Nat.le_succ _)
  have asked := init_asked (y := y) T.o T.no fr q1
  have older : ∀ b o, hp.get? b = some o → ((hp.push (PySem.W.kdv_tup us)).push (PySem.HandSPX.excO C hp.objs.size)).get? b = some o := fun b o z => Heap.get?_push_of_some _ (Heap.get?_push_of_some _ z)
  have stands : ((hp.push (PySem.W.kdv_tup us)).push (PySem.HandSPX.excO C hp.objs.size)).get? (hp.objs.size + 1) = some (PySem.HandSPX.excO C hp.objs.size) := by heap_get
  have I2 := I1.laid (t' := tk) (a := hp.objs.size + 1) (o := exo (hp.objs.size + 1) C none) (h' := (hp.push (PySem.W.kdv_tup us)).push (PySem.HandSPX.excO C hp.objs.size)) older (Nat.le_succ _) (exo_ok stands)
  have hl : us.length = 1 := r1.length.symm
  have r2 : Vals [V.ref (hp.objs.size + 1), y] (Value.ref (hp.objs.size + 1) :: us) := .cons rfl r1
  have bound := hb ⟨(hp.push (PySem.W.kdv_tup us)).push (PySem.HandSPX.excO C hp.objs.size), gs, dr, tk, os⟩ (Value.ref (hp.objs.size + 1) :: us) I2.kIn (by simp [hl])
  rw [List.append_nil] at bound
  have hs : us.length ≤ sizeLine := by rw [hl, sizeLine_eq]; omega
  refine (show wpAny _ _ (call (.ref C) us) _ _ _ from ?_)
  refine wpAny_call (PySem.HandSPX.call_own PySem.F.excBase_ValueError (fun Y => PySem.HandSPX.refsVE_contains Y bm hbm) (I1.kIn _ _ hC) (PySem.W.looks_findIn I1.kIn T.iC) (fun self => PySem.W.bind_fn I1.kIn self T.tI) hs
    (codeAny_mono (F.goes (X.A.under (.builtin "type.__call__" ⟨.ref C :: us, []⟩)) g (room.make C us []) X.stack _ _ (I2.env0.make C us []) ⟨Value.ref (hp.objs.size + 1) :: us, []⟩ _ _ bound r2 _ _ asked) fun r s' hq => ?_))
  match r, hq with
  | .error z, hq => exact pass0 pins σ _ _ z s' I2 hq
  | .ok .next, hq => exact hq.elim
  | .ok .brk, hq => exact hq.elim
  | .ok .cont, hq => exact hq.elim
  | .ok (.ret u), hq =>
    obtain ⟨v, H', I3, rv, ev, q3⟩ := I2.after hq
    subst ev
    exact ⟨rv, ⟨V.ref (hp.objs.size + 1), H', I3, rfl, q3⟩⟩
theorem pe_oexVK {gg : List Value → List Value → List Value} {gV : List V → List V → List V} {kws : List Keyword} (T : TextC X.K C fI) (F : FnG X.prog X.w X.K X.mg X.base CX0 k fI fd ["self", "place"] (spInit X.K)) (g : X.A.guards = some []) (room : Room (k + 1) X.A)
    (hb : KBinds X.K fd ["self", "place"] ["place"] gg gV) (hV : ∀ a y, gV [a] [y] = [a, y]) (hG : ∀ a w : Value, (gg [a] [w]).length = 2) (glob : Gl X x) (at_ : X.mg x = some (.ref C)) (hk : PK X kws ta)
    (all : (backToKw pos (keywordEach kws X.env)).all (·.1.isSome) = true := by rfl) (names : (backToKw pos (keywordEach kws X.env)).filterMap (·.1) = (["place"] : List Str) := by rfl) (nd : (x == ("__debug__" : Str)) = false := by decide)
    (plain : ((backTo pos (starEach [] X.env)).any (·.1) || (backToKw pos (keywordEach kws X.env)).any (·.1.isNone)) = false := by rfl) :
    PE X (.Call (.Name x p) [] kws pos) (tMkV X.K C ta) := by
  constructor
  intro pins s σ H Q I h
  obtain ⟨nm, q, N, bs, bm, sn, sub, ab, col, dd, k0, k1, k2, k3, k5, hC, hbm⟩ := T.o.cls
  apply wpAny_Call_Name_kw (ld_glob I glob at_ _ nd)
  refine PySem.W.callWith_KW0 (h₀ := X.base) I.ok.mod.kin T.o.kC all (thn (hk.run pos pins s σ H _ I h) ?_) plain
  rintro ws s1 ⟨zs, H1, I1, r1, y, rfl, q1⟩
  rw [names]
  obtain ⟨z, rfl⟩ : ∃ z, ws = [z] := by
    cases r1 with | cons a b => cases b; exact ⟨_, rfl⟩
  refine ⟨I1.kIn, ?_⟩
  obtain ⟨hp, gs, dr, tk, os⟩ := s1
  have fr : H1 (hp.objs.size + 1) = none := I1.hok.fresh (Nat.le_succ _)
  have asked := init_asked (y := y) T.o T.no fr q1
  have older : ∀ b o, hp.get? b = some o → ((hp.push (PySem.W.kdv_tup [])).push (PySem.HandSPX.excO C hp.objs.size)).get? b = some o := fun b o z => Heap.get?_push_of_some _ (Heap.get?_push_of_some _ z)
  have stands : ((hp.push (PySem.W.kdv_tup [])).push (PySem.HandSPX.excO C hp.objs.size)).get? (hp.objs.size + 1) = some (PySem.HandSPX.excO C hp.objs.size) := by heap_get
  have I2 := I1.laid (t' := tk) (a := hp.objs.size + 1) (o := exo (hp.objs.size + 1) C none) (h' := (hp.push (PySem.W.kdv_tup [])).push (PySem.HandSPX.excO C hp.objs.size)) older (Nat.le_succ _) (exo_ok stands)
  have both := hb.rel (vs := [V.ref (hp.objs.size + 1)]) (us := [Value.ref (hp.objs.size + 1)]) (.cons rfl .nil) r1
  rw [hV] at both
  have bound := hb.to ⟨(hp.push (PySem.W.kdv_tup [])).push (PySem.HandSPX.excO C hp.objs.size), gs, dr, tk, os⟩ [Value.ref (hp.objs.size + 1)] [z] I2.kIn (hG _ _)
  refine (show wpAny _ _ (call (.ref C) [] _) _ _ _ from ?_)
  refine wpAny_call (callK_goes PySem.F.excBase_ValueError (fun Y => PySem.HandSPX.refsVE_contains Y bm hbm) (I1.kIn _ _ hC) (PySem.W.looks_findIn I1.kIn T.iC) (fun self => PySem.W.bind_fn I1.kIn self T.tI)
    (codeAny_mono (F.goes (X.A.under (.builtin "type.__call__" ⟨[.ref C], _⟩)) g (room.make C [] _) X.stack _ _ (I2.env0.make C [] _) ⟨[Value.ref (hp.objs.size + 1)], _⟩ _ _ bound both _ _ asked) fun r s' hq => ?_))
  match r, hq with
  | .error z, hq => exact pass0 pins σ _ _ z s' I2 hq
  | .ok .next, hq => exact hq.elim
  | .ok .brk, hq => exact hq.elim
  | .ok .cont, hq => exact hq.elim
  | .ok (.ret u), hq =>
    obtain ⟨v, H', I3, rv, ev, q3⟩ := I2.after hq
    subst ev
    exact ⟨rv, ⟨V.ref (hp.objs.size + 1), H', I3, rfl, q3⟩⟩
/-- e.place, e a held error with this field -/
def tPlace (K : PySem.W.Frag) (te : TE) : TE := fun σ H Q => te σ H fun y H1 => ∃ (a C dx fI : Addr) (v : V), y = .ref a ∧ TextC K C fI ∧ H1 a = some (exo a C (some dx)) ∧ H1 dx = some (exd dx [("place", v)]) ∧ Q v H1
theorem pe_place {o : Expr} {te : TE} (ho : PE X o te) (hb : attributeBase o "place" X.env (eval o X.env) = eval o X.env := by rfl) : PE X (.Attribute o "place" pos) (tPlace X.K te) := by
  constructor
  intro pins s σ H Q I h
  refine attr_of hb (thn (ho.run pins s σ H _ I h) ?_)
  rintro u s1 ⟨y, H1, I1, ry, a, C, dx, fI, v, rfl, T, ha, hd, q⟩
  cases (show u = Value.ref a from ry)
  obtain ⟨t1, hobj⟩ := exo_at I1.hok ha
  obtain ⟨mA, hns, rel⟩ := exd_at I1.hok hd
  obtain ⟨od, hod, look⟩ := lookIn_ns hns
  have here : List.lookup ("place" : Str) [(("place" : Str), v)] = some v := by simp [List.lookup]
  obtain ⟨w, hw, rw'⟩ := RelO.some_of (v := v) (o := mA "place") (by rw [← here]; exact rel "place")
  have J : PySem.W.InstAt s1.heap a _ C (some od) := ⟨hobj, rfl, rfl, hod⟩
  exact HandSPX.exc_get I1.kIn J T.xf.ga T.xf.gg T.xf.exC (PySem.W.findObj_own T.xf.hdC T.no rfl (by rw [look, hw])) (handed_of rw') ⟨v, H1, I1.tok _, rw', q⟩
end
/-- "9" * 30 -/
def rNines : R2 := fun x y H Q => x = .str "9" ∧ y = .int 30 ∧ Q (.str ⟨(List.replicate 30 ("9" : Str).cps).foldl (· ++ ·) #[]⟩) H
theorem op_nines {X : Cx} : OpR X (binaryOp .Mult) rNines := by
  intro pins s σ H x y v u Q I rx ry h
  obtain ⟨rfl, rfl, q⟩ := h
  obtain ⟨t, rfl⟩ := rx
  obtain ⟨t', rfl⟩ := ry
  refine PySem.P.mul_str (by decide) (fun _ _ => by decide) (fun _ _ => by decide +kernel) ?_
  rw [if_neg (by decide), if_neg (by decide)]
  exact ⟨by decide +kernel, ⟨.str _, H, I.tok _, ⟨_, rfl⟩, q⟩⟩
theorem rv_nines : RV rNines (.str "9") (.int 30) (.str ⟨(List.replicate 30 ("9" : Str).cps).foldl (· ++ ·) #[]⟩) := fun B H1 v w e r1 r2 Q q => by
  cases r1; cases r2
  exact ⟨rfl, rfl, q _ B H1 (New.refl e) (.str _)⟩
theorem ev_nines {σ : L2.St} {B : Hp} : EvR (tOp rNines (tC (.str "9")) (tC (.int 30))) σ B (.str ⟨(List.replicate 30 ("9" : Str).cps).foldl (· ++ ·) #[]⟩) := ev_op ev_s ev_i rv_nines
end U

set_option maxHeartbeats 4000000
local macro_rules | `(tactic| walk_at "u_rr") => `(tactic| first
  | assumption | exact U.R.int _ | exact U.R.bl _ | exact U.R.str _ | exact U.R.non
  | (apply U.R.mono; (first | (apply U.New.ext; assumption) | assumption); walk_at "u_rr"))
local macro_rules | `(tactic| walk_at "u_side") => `(tactic| first | assumption | decide | omega | rfl | (simp; done) | (simp; omega))
local macro_rules | `(tactic| walk_at "u_rv") => `(tactic| first
  | with_reducible exact U.rv_add | with_reducible exact U.rv_inl U.rv_add | with_reducible exact U.rv_sub
  | with_reducible exact U.rv_lt | with_reducible exact U.rv_le | with_reducible exact U.rv_gt | with_reducible exact U.rv_ge
  | with_reducible exact U.rv_inl U.rv_eqI | with_reducible exact U.rv_inl U.rv_neI | with_reducible exact U.rv_inl U.rv_eqS | with_reducible exact U.rv_inl U.rv_neS
  | ((with_reducible refine' U.rv_mul ?_); (unfold L2.CMul; walk_at "u_side"))
  | ((with_reducible refine' U.rv_mod ?_); walk_at "u_side")
  | ((with_reducible refine' U.rv_div ?_); (unfold L2.CDiv; walk_at "u_side"))
  | ((with_reducible refine' U.rv_pow ?_); (unfold L2.CPow; walk_at "u_side"))
  | ((with_reducible refine' U.rv_shr ?_); walk_at "u_side")
  | ((with_reducible refine' U.rv_ixL ?_); walk_at "u_side")
  | ((with_reducible refine' U.rv_ixT ?_); walk_at "u_side")
  | ((with_reducible refine' U.rv_inr (U.rv_cat ?_)); walk_at "u_side")
  | ((with_reducible refine' U.rv_inr (U.rv_eqD ?_ ?_)) <;> walk_at "u_side")
  | ((with_reducible refine' U.rv_inr (U.rv_neD ?_ ?_)) <;> walk_at "u_side"))
local macro_rules | `(tactic| walk_at "u_rl") => `(tactic| first
  | with_reducible exact U.rl_lenL | with_reducible exact U.rl_lenT | with_reducible exact U.rl_list | with_reducible exact U.rl_listT | with_reducible exact U.rl_tuple
  | with_reducible exact U.rl_abs | with_reducible exact U.rl_int | with_reducible exact U.rl_max2 | with_reducible exact U.rl_min2
  | ((with_reducible refine' U.rl_reprD ?_ ?_); rfl; assumption)
  | with_reducible exact U.rl_all
  | ((with_reducible refine' U.rl_min ?_); walk_at "u_side"))
local macro_rules | `(tactic| walk_at "u_call") => `(tactic| fail)
local macro_rules | `(tactic| walk_at "u_lc") => `(tactic| fail)
local macro_rules | `(tactic| walk_at "u_ea") => `(tactic| first
  | with_reducible exact U.ea_nil
  | ((with_reducible refine' U.ea_cons ?ha ?hb); (case ha => walk_at "u_ev"); (case hb => walk_at "u_ea")))
local macro_rules | `(tactic| walk_at "u_ev") => `(tactic| first
  | ((with_reducible refine' U.ev_v ?ha ?hb); (case ha => rfl); (case hb => walk_at "u_rr"))
  | with_reducible exact U.ev_i | with_reducible exact U.ev_s | with_reducible exact U.ev_b | with_reducible exact U.ev_n
  | ((with_reducible refine' U.ev_isTy ?ha); (case ha => walk_at "u_ev"))
  | ((with_reducible refine' U.ev_isi ?ha ?hb); (case ha => walk_at "u_ev"); (case hb => decide +kernel))
  | ((with_reducible refine' U.ev_op ?ha ?hb ?hc); (case ha => walk_at "u_ev"); (case hb => walk_at "u_ev"); (case hc => walk_at "u_rv"))
  | ((with_reducible refine' U.ev_un ?ha ?hc); (case ha => walk_at "u_ev"); (case hc => with_reducible exact U.ru_neg))
  | ((with_reducible refine' U.ev_cb ?ha ?hc); (case ha => walk_at "u_ea"); (case hc => walk_at "u_rl"))
  | ((with_reducible refine' U.ev_tup ?ha ?hc); (case ha => walk_at "u_ea"); (case hc => walk_at "u_side"))
  | ((with_reducible refine' U.ev_lst ?ha ?hc); (case ha => walk_at "u_ea"); (case hc => walk_at "u_side"))
  | ((with_reducible refine' U.ev_and ?ha ?hc); (case ha => walk_at "u_ev"); (case hc => (intro _; walk_at "u_ev")))
  | ((with_reducible refine' U.ev_or ?ha ?hc); (case ha => walk_at "u_ev"); (case hc => (intro _; walk_at "u_ev")))
  | ((with_reducible refine' U.ev_not ?ha); (case ha => walk_at "u_ev"))
  | ((with_reducible refine' U.ev_ifI ?ha ?hb ?hc); (case ha => walk_at "u_ec"); (case hb => walk_at "u_ev"); (case hc => walk_at "u_ev"))
  | ((with_reducible refine' U.ev_call ?ha ?hb); (case ha => walk_at "u_ea"); (case hb => walk_at "u_call"))
  | walk_at "u_lc")
local macro_rules | `(tactic| walk_at "u_ec") => `(tactic| first
  | ((with_reducible refine' U.ec_t ?ha); (case ha => walk_at "u_ev"))
  | ((with_reducible refine' U.ec_v ?ha); (case ha => walk_at "u_ev"))
  | ((with_reducible refine' U.ec_and ?ha ?hc); (case ha => walk_at "u_ec"); (case hc => (intro _; walk_at "u_ec")))
  | ((with_reducible refine' U.ec_or ?ha ?hc); (case ha => walk_at "u_ec"); (case hc => (intro _; walk_at "u_ec")))
  | ((with_reducible refine' U.ec_not ?ha); (case ha => walk_at "u_ec")))
local macro_rules | `(tactic| walk_at "u_n") => `(tactic| ((try (with_reducible refine' U.s_next ?_)); (try dsimp only)))
local macro_rules | `(tactic| walk_at "u_ev") => `(tactic| first
  | ((with_reducible refine' U.ev_chain ?ha ?hb ?hc ?hd ?he); (case ha => walk_at "u_ev"); (case hb => walk_at "u_ev"); (case hc => walk_at "u_rv"); (case hd => (intro _; walk_at "u_ev")); (case he => (intro _; walk_at "u_rv"))))
local macro_rules | `(tactic| walk_at "u_call") => `(tactic| first
  | exact ⟨_, rfl, rfl⟩ | exact ⟨_, _, rfl, rfl⟩ | exact ⟨_, _, _, rfl, rfl⟩ | exact ⟨_, _, _, _, rfl, rfl⟩)
local macro_rules | `(tactic| walk_at "u_lci") => `(tactic| (
  (refine' U.q_lc1 (enc := U.Dt.int) ?h ?it ?hz ?hw ?he); (case h => walk_at "u_ev"); (case it => first | exact U.Items.lst _ | exact U.Items.tup _); (case hz => walk_at "u_side"); (case hw => (intro _; rfl)); (case he => (intro q v B1 hm hB rv; cases rv; walk_at "u_ev"))))
local macro_rules | `(tactic| walk_at "u_ev") => `(tactic| ((with_reducible refine' U.ev_exc ?ha); (case ha => walk_at "u_ev")))
local macro_rules | `(tactic| walk_at "u_rv") => `(tactic| exact U.rv_ixT rfl)
local macro_rules | `(tactic| walk_at "u_rv") => `(tactic| exact U.rv_rep ⟨by decide, by decide⟩ (by simp))

namespace Law
open PySem L2 U
open Evl (Ex rLenS rListS st_of sq_of sz_lt sz_of fresh_back)
def top (i : Nat) : Stmt := PySem.Challenge.pw_unknowncorners_k05_errors_made.main.body.getD i (.Pass ⟨0, 0, 0, 0⟩)
def s_init : Stmt := match top 16 with
  | .ClassDef _ _ _ b _ _ _ _ _ _ _ => b.getD 0 (.Pass ⟨0, 0, 0, 0⟩)
  | x => x
theorem sc_init : FnScope ["self", "place"] ["self", "place"] (defScope s_init) := ⟨rfl, rfl, rfl, by decide +kernel, rfl, by decide +kernel, by decide +kernel⟩
def init_g : List Value → List Value → List Value | [u0], [w0] => [u0, w0] | _, _ => []
def init_v : List V → List V → List V | [u0], [w0] => [u0, w0] | _, _ => []
abbrev s__law_deck : Stmt := top 18
abbrev s__law_take : Stmt := top 19
abbrev s__law_kinds : Stmt := top 20
abbrev s_law : Stmt := top 21
theorem sc__law_deck : FnScope ["script", "seed", "cell"] ["script"] (defScope s__law_deck) := ⟨rfl, rfl, rfl, by decide +kernel, rfl, by decide +kernel, by decide +kernel⟩
theorem sc__law_take : FnScope ["deck", "wide", "left", "mixed"] ["deck", "wide"] (defScope s__law_take) := ⟨rfl, rfl, rfl, by decide +kernel, rfl, by decide +kernel, by decide +kernel⟩
theorem sc__law_kinds : FnScope ["e", "found"] ["e"] (defScope s__law_kinds) := ⟨rfl, rfl, rfl, by decide +kernel, rfl, by decide +kernel, by decide +kernel⟩
theorem sc_law : FnScope ["script", "deck", "turn", "text_here", "made", "k", "at", "spot", "one", "two", "plain_one"] ["script"] (defScope s_law) := ⟨rfl, rfl, rfl, by decide +kernel, rfl, by decide +kernel, by decide +kernel⟩

structure Txt (K : PySem.W.Frag) (mg : Str → Option Value) (fa : Nat → Addr) (fd : Nat → FuncData) : Prop where
  d__law_deck : At K mg "_law_deck" s__law_deck (fa 18) (fd 18)
  d__law_take : At K mg "_law_take" s__law_take (fa 19) (fd 19)
  d__law_kinds : At K mg "_law_kinds" s__law_kinds (fa 20) (fd 20)
  d_law : At K mg "law" s_law (fa 21) (fd 21)
  n_ValueError : mg "ValueError" = none
  n_abs : mg "abs" = none
  n_int : mg "int" = none
  n_isinstance : mg "isinstance" = none
  n_len : mg "len" = none
  n_range : mg "range" = none
  n_repr : mg "repr" = none
  e_PaintError : ExcT K mg "PaintError" (cAt mg "PaintError")
  e_InvalidFrame : ExcT K mg "InvalidFrame" (cAt mg "InvalidFrame")
  e_InvalidProgram : ExcT K mg "InvalidProgram" (cAt mg "InvalidProgram")
  e_InvalidSetting : ExcT K mg "InvalidSetting" (cAt mg "InvalidSetting")
  e_InvalidCell : ExcT K mg "InvalidCell" (cAt mg "InvalidCell")
  e_InvalidFacts : ExcT K mg "InvalidFacts" (cAt mg "InvalidFacts")
  e_InvalidIndex : ExcT K mg "InvalidIndex" (cAt mg "InvalidIndex")
  e_InvalidColour : ExcT K mg "InvalidColour" (cAt mg "InvalidColour")
  e_InvalidStatement : ExcT K mg "InvalidStatement" (cAt mg "InvalidStatement")
  e_InvalidWidths : ExcT K mg "InvalidWidths" (cAt mg "InvalidWidths")
  e_InvalidValue : ExcT K mg "InvalidValue" (cAt mg "InvalidValue")
  e_Impossible : ExcT K mg "Impossible" (cAt mg "Impossible")
  e_OtherFrame : ExcT K mg "OtherFrame" (cAt mg "OtherFrame")
  e_NothingToUndo : ExcT K mg "NothingToUndo" (cAt mg "NothingToUndo")
  e_InvalidCommand : ExcT K mg "InvalidCommand" (cAt mg "InvalidCommand")
  d_init : Fun K "__init__" "InvalidText.__init__" s_init (fa 1000) (fd 1000)
  g_InvalidText : mg "InvalidText" = some (.ref (cAt mg "InvalidText"))
  t_InvalidText : TextC K (cAt mg "InvalidText") (fa 1000)
  c_InvalidText : ExcC K (cAt mg "InvalidText")
  y_InvalidText : PySem.W.typeIn K (.ref (cAt mg "InvalidText")) = some (.type "type")
  m_PaintError : (PySem.W.clsIn K (cAt mg "PaintError")).map (·.mro) = some [.ref (cAt mg "PaintError"), .type "ValueError", .type "Exception", .type "BaseException", .type "object"]
  m_InvalidFrame : (PySem.W.clsIn K (cAt mg "InvalidFrame")).map (·.mro) = some [.ref (cAt mg "InvalidFrame"), .ref (cAt mg "PaintError"), .type "ValueError", .type "Exception", .type "BaseException", .type "object"]
  m_InvalidProgram : (PySem.W.clsIn K (cAt mg "InvalidProgram")).map (·.mro) = some [.ref (cAt mg "InvalidProgram"), .ref (cAt mg "PaintError"), .type "ValueError", .type "Exception", .type "BaseException", .type "object"]
  m_InvalidSetting : (PySem.W.clsIn K (cAt mg "InvalidSetting")).map (·.mro) = some [.ref (cAt mg "InvalidSetting"), .ref (cAt mg "PaintError"), .type "ValueError", .type "Exception", .type "BaseException", .type "object"]
  m_InvalidCell : (PySem.W.clsIn K (cAt mg "InvalidCell")).map (·.mro) = some [.ref (cAt mg "InvalidCell"), .ref (cAt mg "PaintError"), .type "ValueError", .type "Exception", .type "BaseException", .type "object"]
  m_InvalidFacts : (PySem.W.clsIn K (cAt mg "InvalidFacts")).map (·.mro) = some [.ref (cAt mg "InvalidFacts"), .ref (cAt mg "PaintError"), .type "ValueError", .type "Exception", .type "BaseException", .type "object"]
  m_InvalidIndex : (PySem.W.clsIn K (cAt mg "InvalidIndex")).map (·.mro) = some [.ref (cAt mg "InvalidIndex"), .ref (cAt mg "PaintError"), .type "ValueError", .type "Exception", .type "BaseException", .type "object"]
  m_InvalidColour : (PySem.W.clsIn K (cAt mg "InvalidColour")).map (·.mro) = some [.ref (cAt mg "InvalidColour"), .ref (cAt mg "PaintError"), .type "ValueError", .type "Exception", .type "BaseException", .type "object"]
  m_InvalidStatement : (PySem.W.clsIn K (cAt mg "InvalidStatement")).map (·.mro) = some [.ref (cAt mg "InvalidStatement"), .ref (cAt mg "PaintError"), .type "ValueError", .type "Exception", .type "BaseException", .type "object"]
  m_InvalidWidths : (PySem.W.clsIn K (cAt mg "InvalidWidths")).map (·.mro) = some [.ref (cAt mg "InvalidWidths"), .ref (cAt mg "PaintError"), .type "ValueError", .type "Exception", .type "BaseException", .type "object"]
  m_InvalidValue : (PySem.W.clsIn K (cAt mg "InvalidValue")).map (·.mro) = some [.ref (cAt mg "InvalidValue"), .ref (cAt mg "PaintError"), .type "ValueError", .type "Exception", .type "BaseException", .type "object"]
  m_Impossible : (PySem.W.clsIn K (cAt mg "Impossible")).map (·.mro) = some [.ref (cAt mg "Impossible"), .ref (cAt mg "PaintError"), .type "ValueError", .type "Exception", .type "BaseException", .type "object"]
  m_OtherFrame : (PySem.W.clsIn K (cAt mg "OtherFrame")).map (·.mro) = some [.ref (cAt mg "OtherFrame"), .ref (cAt mg "PaintError"), .type "ValueError", .type "Exception", .type "BaseException", .type "object"]
  m_NothingToUndo : (PySem.W.clsIn K (cAt mg "NothingToUndo")).map (·.mro) = some [.ref (cAt mg "NothingToUndo"), .ref (cAt mg "PaintError"), .type "ValueError", .type "Exception", .type "BaseException", .type "object"]
  m_InvalidCommand : (PySem.W.clsIn K (cAt mg "InvalidCommand")).map (·.mro) = some [.ref (cAt mg "InvalidCommand"), .ref (cAt mg "PaintError"), .type "ValueError", .type "Exception", .type "BaseException", .type "object"]
  m_InvalidText : (PySem.W.clsIn K (cAt mg "InvalidText")).map (·.mro) = some [.ref (cAt mg "InvalidText"), .ref (cAt mg "PaintError"), .type "ValueError", .type "Exception", .type "BaseException", .type "object"]
  nd : ([cAt mg "PaintError", cAt mg "InvalidFrame", cAt mg "InvalidProgram", cAt mg "InvalidSetting", cAt mg "InvalidCell", cAt mg "InvalidFacts", cAt mg "InvalidIndex", cAt mg "InvalidColour", cAt mg "InvalidStatement", cAt mg "InvalidWidths", cAt mg "InvalidValue", cAt mg "Impossible", cAt mg "OtherFrame", cAt mg "NothingToUndo", cAt mg "InvalidCommand", cAt mg "InvalidText"] : List Addr).Nodup
section
variable {K : PySem.W.Frag} {mg : Str → Option Value} {fa : Nat → Addr} {fd : Nat → FuncData}
theorem bn_init (T : Txt K mg fa fd) : Binds K (fd 1000) ["self", "place"] [] := T.d_init.binds fun _ _ _ _ _ _ us hl => match us, hl with | [_, _], _ => rfl
theorem kb_init (T : Txt K mg fa fd) : KBinds K (fd 1000) ["self", "place"] ["place"] init_g init_v := kb_of T.d_init (fun _ _ _ _ _ _ us ws hl => match us, ws, hl with | [u0], [w0], _ => rfl) (fun {vs us zs ws} r1 r2 => by
  cases r1 with
  | nil => exact .nil
  | cons a0 r1 =>
    cases r1 with
    | cons _ _ => exact .nil
    | nil =>
      cases r2 with
      | nil => exact .nil
      | cons b0 r2 =>
        cases r2 with
        | cons _ _ => exact .nil
        | nil => exact .cons a0 (.cons b0 .nil))
theorem bn__law_deck (T : Txt K mg fa fd) : Binds K (fd 18) ["script"] [] := T.d__law_deck.F.binds fun _ _ _ _ _ _ us hl => match us, hl with | [_], _ => rfl
theorem bn__law_take (T : Txt K mg fa fd) : Binds K (fd 19) ["deck", "wide"] [] := T.d__law_take.F.binds fun _ _ _ _ _ _ us hl => match us, hl with | [_, _], _ => rfl
theorem bn__law_kinds (T : Txt K mg fa fd) : Binds K (fd 20) ["e"] [] := T.d__law_kinds.F.binds fun _ _ _ _ _ _ us hl => match us, hl with | [_], _ => rfl
theorem bn_law (T : Txt K mg fa fd) : Binds K (fd 21) ["script"] [] := T.d_law.F.binds fun _ _ _ _ _ _ us hl => match us, hl with | [_], _ => rfl
end
section
variable {P : Program} {w : World} {K : PySem.W.Frag} {mg : Str → Option Value} {base : Heap} {fa : Nat → Addr} {fd : Nat → FuncData}
theorem ok_init (T : Txt K mg fa fd) : FnG P w K mg base CX0 1 (fa 1000) (fd 1000) ["self", "place"] (spInit K) := by
  refine fn_S T.d_init sc_init (fun vs H Q E h => by obtain ⟨_, _, _, rfl, _⟩ := h; rfl) (fun cdv Γ below s H vs Q E hg hr h => ?_)
  obtain ⟨a, C, x, rfl, o, no, ha, q⟩ := h
  refine ⟨_, pss_one (ps_ost (pv 0) (pv 1)), ?_⟩
  exact ⟨x, rfl, .ref a, rfl, a, C, rfl, o, no, .inl ⟨ha, fun dx hd ne => q dx hd ne⟩⟩
/-- all that is asked of a class of errors without an own __init__, at once -/
def excB (K : PySem.W.Frag) (C : Addr) (up : List Value) : Bool :=
  decide (PySem.W.subIn K (.ref C) (.type "BaseException") = some true) && (decide (PySem.W.typeIn K (.ref C) = some (.type "type")) && (PySem.W.hasDictIn K C && (PySem.W.keepIn K (.ref C) && (PySem.W.excIn K C [.type "ValueError", .type "Exception", .type "BaseException", .type "object"] "ValueError.__new__" &&
  (decide (PySem.W.findIn K (.ref C) "__getattribute__" = some (some (.builtin "BaseException.__getattribute__"))) && (decide (PySem.W.findIn K (.ref C) "__getattr__" = some none) && (decide (PySem.W.findIn K (.ref C) "__class__" = some (some (.builtin "object.__class__"))) &&
  (decide (PySem.W.subIn K (.ref C) (.type "ValueError") = some true) && (decide (PySem.W.mroIn K C (.type "object") = some true) && decide ((PySem.W.clsIn K C).map (·.mro) = some (.ref C :: (up ++ [.type "ValueError", .type "Exception", .type "BaseException", .type "object"]))))))))))))
theorem excB_T {C : Addr} {up : List Value} {x : Str} (g : mg x = some (.ref C)) (h : excB K C up = true) (hn : PySem.W.specialIn K (.builtin "object.__class__") "__get__" = some (some (.builtin "getset_descriptor.__get__"))) (ht : PySem.W.takesIn K (.builtin "object.__class__") = some true) : ExcT K mg x C := by
  unfold excB at h
  simp only [Bool.and_eq_true, decide_eq_true_eq] at h
  obtain ⟨b, t, hd, k, xx, hg, hk, ha, v, hm, _⟩ := h
  exact ⟨g, k, xx, b, t, ⟨hg, hk, b, hd, ha, hn, ht, hm⟩, v⟩
theorem excB_m {C : Addr} {up : List Value} (h : excB K C up = true) : (PySem.W.clsIn K C).map (·.mro) = some (.ref C :: (up ++ [.type "ValueError", .type "Exception", .type "BaseException", .type "object"])) := by
  unfold excB at h
  simp only [Bool.and_eq_true, decide_eq_true_eq] at h
  exact h.2.2.2.2.2.2.2.2.2.2
/-! ### the classes -/
def EX : List Str := ["InvalidFrame", "InvalidProgram", "InvalidSetting", "InvalidCell", "InvalidFacts", "InvalidIndex", "InvalidColour", "InvalidStatement", "InvalidWidths", "InvalidValue", "Impossible", "OtherFrame", "NothingToUndo", "InvalidCommand", "InvalidText"]
/-- what the class at C says of itself: its own line of bases, and that it is a class -/
structure Cls (K : PySem.W.Frag) (P C : Addr) : Prop where
  m : ∃ l, (PySem.W.clsIn K C).map (·.mro) = some (.ref C :: l) ∧ (∀ D, Value.ref D ∈ l → D = P) ∧ Value.type "ValueError" ∈ l ∧ (C ≠ P → Value.ref P ∈ l)
  t : PySem.W.typeIn K (.ref C) = some (.type "type")
  e : ExcC K C
theorem sub_mro {C : Addr} {l : List Value} {v : Value} (h : (PySem.W.clsIn K C).map (·.mro) = some (.ref C :: l)) : PySem.W.subIn K (.ref C) v = some ((Value.ref C :: l).contains v) := by
  obtain ⟨cd, h1, h2⟩ := Option.map_eq_some_iff.mp h
  show PySem.W.mroIn K C v = _
  unfold PySem.W.mroIn
  rw [h1, Option.bind_some, h2]
  rfl
theorem kit_ref {P C D : Addr} (c : Cls K P C) (d : Cls K P D) (hp : D ≠ P) : PySem.W.kitOne K (.ref C) (.ref D) = some (decide (C = D)) := by
  obtain ⟨l, h, only, _, _⟩ := c.m
  obtain ⟨l2, h2, _⟩ := d.m
  have s2 : (PySem.W.clsIn K D).isSome = true := by
    obtain ⟨cd, z, _⟩ := Option.map_eq_some_iff.mp h2
    rw [z]; rfl
  by_cases e : C = D
  · subst e
    rw [decide_eq_true rfl]
    exact kit_self
  · unfold PySem.W.kitOne
    rw [if_neg (by simpa using e)]
    show (if ((PySem.W.clsIn K D).isSome && PySem.W.typeIn K (.ref D) == some (.type "type")) = true then PySem.W.subIn K (.ref C) (.ref D) else none) = _
    rw [s2, d.t, if_pos (by rfl), sub_mro h, decide_eq_false e]
    congr 1
    rw [List.contains_cons]
    have h1 : (Value.ref D == Value.ref C) = false := by simpa using Ne.symm e
    have h3 : l.contains (Value.ref D) = false := by
      cases z : l.contains (Value.ref D) with
      | false => rfl
      | true => exact absurd (only D (List.contains_iff_mem.mp z)) hp
    rw [h1, h3]
    rfl
theorem kit_base {P C : Addr} (c : Cls K P C) (p : Cls K P P) : PySem.W.kitOne K (.ref C) (.ref P) = some true := by
  obtain ⟨l, h, _, _, up⟩ := c.m
  obtain ⟨l2, h2, _⟩ := p.m
  by_cases e : C = P
  · subst e
    exact kit_self
  · have s2 : (PySem.W.clsIn K P).isSome = true := by
      obtain ⟨cd, z, _⟩ := Option.map_eq_some_iff.mp h2
      rw [z]; rfl
    unfold PySem.W.kitOne
    rw [if_neg (by simpa using e)]
    show (if ((PySem.W.clsIn K P).isSome && PySem.W.typeIn K (.ref P) == some (.type "type")) = true then PySem.W.subIn K (.ref C) (.ref P) else none) = _
    rw [s2, p.t, if_pos (by rfl), sub_mro h, List.contains_cons, List.contains_iff_mem.mpr (up e), Bool.or_true]
theorem kit_value {P C : Addr} (c : Cls K P C) : PySem.W.kitOne K (.ref C) (.type "ValueError") = some true := by
  obtain ⟨l, h, _, ve, _⟩ := c.m
  refine kit_val ?_
  rw [sub_mro h, List.contains_cons, List.contains_iff_mem.mpr ve, Bool.or_true]
def LX (mg : Str → Option Value) : List Addr := EX.map (cAt mg)
theorem LX_nodup (T : Txt K mg fa fd) : (LX mg).Nodup := (List.nodup_cons.mp T.nd).2
theorem LX_base (T : Txt K mg fa fd) : ∀ C ∈ LX mg, C ≠ cAt mg "PaintError" := fun C h z => (List.nodup_cons.mp T.nd).1 (z ▸ h)
theorem cls_base (T : Txt K mg fa fd) : Cls K (cAt mg "PaintError") (cAt mg "PaintError") := ⟨⟨_, T.m_PaintError, by simp, by simp, fun h => absurd rfl h⟩, T.e_PaintError.t, T.e_PaintError.i⟩
theorem cls_of (T : Txt K mg fa fd) : ∀ C ∈ LX mg, Cls K (cAt mg "PaintError") C := by
  have go : ∀ C : Addr, (PySem.W.clsIn K C).map (·.mro) = some [.ref C, .ref (cAt mg "PaintError"), .type "ValueError", .type "Exception", .type "BaseException", .type "object"] → PySem.W.typeIn K (.ref C) = some (.type "type") → ExcC K C → Cls K (cAt mg "PaintError") C := fun C h t e =>
    ⟨⟨_, h, by simp, by simp, fun _ => by simp⟩, t, e⟩
  intro C h
  simp only [LX, EX, List.map_cons, List.map_nil, List.mem_cons, List.not_mem_nil, or_false] at h
  rcases h with rfl | rfl | rfl | rfl | rfl | rfl | rfl | rfl | rfl | rfl | rfl | rfl | rfl | rfl | rfl
  · exact go _ T.m_InvalidFrame T.e_InvalidFrame.t T.e_InvalidFrame.i
  · exact go _ T.m_InvalidProgram T.e_InvalidProgram.t T.e_InvalidProgram.i
  · exact go _ T.m_InvalidSetting T.e_InvalidSetting.t T.e_InvalidSetting.i
  · exact go _ T.m_InvalidCell T.e_InvalidCell.t T.e_InvalidCell.i
  · exact go _ T.m_InvalidFacts T.e_InvalidFacts.t T.e_InvalidFacts.i
  · exact go _ T.m_InvalidIndex T.e_InvalidIndex.t T.e_InvalidIndex.i
  · exact go _ T.m_InvalidColour T.e_InvalidColour.t T.e_InvalidColour.i
  · exact go _ T.m_InvalidStatement T.e_InvalidStatement.t T.e_InvalidStatement.i
  · exact go _ T.m_InvalidWidths T.e_InvalidWidths.t T.e_InvalidWidths.i
  · exact go _ T.m_InvalidValue T.e_InvalidValue.t T.e_InvalidValue.i
  · exact go _ T.m_Impossible T.e_Impossible.t T.e_Impossible.i
  · exact go _ T.m_OtherFrame T.e_OtherFrame.t T.e_OtherFrame.i
  · exact go _ T.m_NothingToUndo T.e_NothingToUndo.t T.e_NothingToUndo.i
  · exact go _ T.m_InvalidCommand T.e_InvalidCommand.t T.e_InvalidCommand.i
  · exact go _ T.m_InvalidText T.y_InvalidText T.c_InvalidText
/-- which of the classes an error of the class at C is one of -/
def kindsOf (mg : Str → Option Value) (C : Addr) : List Dt := (LX mg).map fun D => .bl (decide (C = D))
def rowOf (i : Nat) : List Dt := (List.range 15).map fun j : Nat => .bl (decide ((i : Int) = (j : Int)))
theorem LX_len : (LX mg).length = 15 := rfl
theorem kinds_row (T : Txt K mg fa fd) {i : Nat} (hi : i < (LX mg).length) : kindsOf mg (LX mg)[i] = rowOf i := by
  refine List.ext_getElem (by rw [kindsOf, rowOf, List.length_map, List.length_map, List.length_range, LX_len]) (fun j h1 h2 => ?_)
  have hj : j < (LX mg).length := by simpa [kindsOf] using h1
  simp only [kindsOf, rowOf, List.getElem_map, List.getElem_range]
  congr 1
  refine decide_eq_decide.mpr ?_
  rw [List.getElem_inj (LX_nodup T)]
  omega
theorem kinds_none (T : Txt K mg fa fd) : kindsOf mg (cAt mg "PaintError") = List.replicate 15 (.bl false) := by
  refine List.ext_getElem (by rw [kindsOf, List.length_map, LX_len, List.length_replicate]) (fun j h1 h2 => ?_)
  have hj : j < (LX mg).length := by simpa [kindsOf] using h1
  simp only [kindsOf, List.getElem_map, List.getElem_replicate]
  congr 1
  exact decide_eq_false (Ne.symm (LX_base T _ (List.getElem_mem hj)))
theorem row_eqv : ∀ i : Fin 15, PyData.eqv (Dt.lst (rowOf i)).py (Dt.lst (rowOf i)).py = true := by decide +kernel
theorem row_ok : ∀ i : Fin 15, SeqAt.shaped (Dt.lst (rowOf i)).py = true := by decide +kernel

/-! ### the deck -/
def spDeck (K : PySem.W.Frag) : Sp := fun vs H Q _ => ∃ (a : Addr) (ns : List Int), vs = [.ref a] ∧ SqL K H a (ns.map V.int) ∧ ns.length ≤ 63 ∧ ∀ p q H2, Ex H H2 → Dk p q H2 → Q (.ref p) H2
theorem dk_of {B : Hp} {v : V} {xs : List Int} {i s c : Int} (r : R B v (.lst [.lst (xs.map .int), .int i, .int s, .int c])) (nn : ∀ n ∈ xs, 0 ≤ n) (len : xs.length ≤ 63) (i0 : 0 ≤ i) (s0 : 0 ≤ s) (s1 : s < 2147483647) : ∃ p q, v = .ref p ∧ ∀ H, Ex B H → DkAt p q H xs i s c := by
  obtain ⟨p, vs, rfl, hp, ra⟩ := r.lst_inv
  rcases ra with _ | ⟨r1, _ | ⟨r2, _ | ⟨r3, _ | ⟨r4, _ | _⟩⟩⟩⟩
  cases r2; cases r3; cases r4
  obtain ⟨q, ws, rfl, hq, rb⟩ := r1.lst_inv
  have ew := rb.ints_inv
  subst ew
  refine ⟨p, q, rfl, fun H e => ⟨fun z => ?_, e _ _ hp, e _ _ hq, nn, len, i0, s0, s1⟩⟩
  subst z
  rw [hp] at hq
  cases xs with
  | nil => cases hq
  | cons x xs => cases hq
theorem ok__law_deck (T : Txt K mg fa fd) : FnG P w K mg base CX0 1 (fa 18) (fd 18) ["script"] (spDeck K) := by
  refine fn_S T.d__law_deck.F sc__law_deck (fun vs H Q E h => by obtain ⟨_, _, rfl, _⟩ := h; rfl) (fun cdv Γ below s H vs Q E hg hr h => ?_)
  obtain ⟨a, ns, rfl, hs, hl, ret⟩ := h
  have hu := hr.units
  refine ⟨_, (pss_cons (ps_set (i := 1) sc__law_deck.nd rfl (by first | exact Or.inl rfl | exact Or.inr rfl) pe_int) (pss_cons (ps_for PassesOwn.never rfl (k_seq (K := K) rfl (pe_slice (k_slice (K := K) rfl) (pv 0) po_none (po_some pe_int))) (pg_name (i := 2) sc__law_deck.nd rfl (by first | exact Or.inl rfl | exact Or.inr rfl)) (pss_one (ps_set (i := 1) sc__law_deck.nd rfl (by first | exact Or.inl rfl | exact Or.inr rfl) (pe_op op_mod (pe_callTy c_int rfl T.n_int (by decide +kernel) (pa_cons (pe_op op_addA (pe_op op_addA (pe_op op_mul (pv 1) pe_int) (pe_op op_mod (pe_callTy c_int rfl T.n_int (by decide +kernel) (pa_cons (pv 2) pa_nil)) pe_int)) pe_int) pa_nil)) pe_int)))) (pss_one (ps_ret (pe_lst (pa_cons (pe_lc (own := [("cell", 2)]) (g := (gName 2)) (tt := tYes) rfl sc__law_deck.nd (k_seq (K := K) rfl (pe_slice (k_slice (K := K) rfl) (pv 0) po_none (po_some pe_int))) (blkOk_by (N := ["script", "seed", "cell"]) (sc := defScope s__law_deck) (by decide +kernel)) (fun _ _ _ _ _ => (pg_name (i := 2) sc__law_deck.nd rfl (by first | exact Or.inl rfl | exact Or.inr rfl))) (fun _ _ _ _ _ => pts_nil) (fun _ _ _ _ _ => (pe_op op_mod (pe_callTy c_int rfl T.n_int (by decide +kernel) (pa_cons (pe_callB c_abs rfl T.n_abs (by decide +kernel) (pa_cons (pv 2) pa_nil)) pa_nil)) (pe_op op_powW (pe_op op_pow pe_int pe_int) pe_int)))) (pa_cons pe_int (pa_cons (pv 1) (pa_cons pe_int pa_nil))))))))), ?_⟩
  have tk : ns.take (63 : Int).toNat = ns := List.take_of_length_le hl
  refine s_seq (s_asg (Ex.refl H) ev_i fun v1 B1 H1 n1 r1 => ?_)
  cases r1
  walk_at "u_n"
  have hs1 : SqL K B1 a (ns.map V.int) := Evl.ex_l n1.ext hs
  refine s_seq (q_for n1.sub (ev_slToS rfl hs1 ev_i (by decide)) (Items.lst _) (fun Ba Ha i σ' H' => ∃ (sd : Int) (w : Option V), σ' = [some (.ref a), some (.int sd), w] ∧ 0 ≤ sd ∧ sd < 2147483647 ∧ Ex Ba H' ∧ Ex Ha H') ?_ ?_ ?_ ?_)
  · intro Ba Ha na
    exact ⟨40009, _, rfl, by decide, by decide, na.sub, Ex.refl _⟩
  · rintro Ba Ha i σ' H' ⟨sd, w, rfl, h1, h2, h3, h4⟩
    exact h3
  · rintro Ba Ha i d v σ' H' na hd rd ⟨sd, w, rfl, h1, h2, h3, h4⟩
    rw [List.getElem?_map] at hd
    cases hq : (ns.take (63 : Int).toNat)[i]? with
    | none => rw [hq] at hd; cases hd
    | some m =>
      rw [hq] at hd
      cases hd
      cases rd
      show tAsg _ _ _ _ _
      refine s_asg (B := Ba) (d := .int ((sd * 62089911 + m % 2147483629 + 17) % 2147483647)) h3 (by walk_at "u_ev") fun v2 B2 H2 n2 r2 => ?_
      cases r2
      exact ⟨_, _, rfl, Int.emod_nonneg _ (by decide), Int.emod_lt_of_pos _ (by decide), (na.ext.trans (Ex.refl _) |> fun _ => h3.trans n2.heap), h4.trans n2.heap⟩
  · rintro Ba Ha σ' H' na ⟨sd, w, rfl, h1, h2, h3, h4⟩
    walk_at "u_n"
    have hsa : SqL K Ba a (ns.map V.int) := Evl.ex_l na.ext hs1
    refine s_ret (d := .lst [.lst ((ns.map fun n => (if n < 0 then -n else n) % ((10 ^ (60 : Int).toNat) ^ (10 : Int).toNat)).map .int), .int 0, .int sd, .int 0]) h3 ?_ (fun v Bz Hz nz rv => ?_)
    · refine ev_lst (ea_cons ?_ (ea_cons ev_i (ea_cons (ev_v rfl (.int _)) (ea_cons ev_i ea_nil)))) (by simp)
      have g := q_lc1 (K := K) (σ := ([some (.ref a), some (.int sd), w] : L2.St)) (B := Ba) (enc := Dt.int) (l := ns) (f := fun n => .int ((if n < 0 then -n else n) % ((10 ^ (60 : Int).toNat) ^ (10 : Int).toNat))) (vs := [2]) (j := 2) (ta := tSl (rSlL K) (tVar 0) tNoPart (tPart (tC (.int 63))))
        ((ev_slToS rfl hsa ev_i (by decide)).is (by rw [tk])) (Items.lst _) (by omega) (fun _ => rfl) (fun n v Bx hm hB rv => by
          cases rv
          exact ev_op (ev_cb (ea_cons (ev_cb (ea_cons (ev_v (n := 2) rfl (.int _)) ea_nil) rl_abs) ea_nil) rl_int) (ev_op (ev_op ev_i ev_i (rv_pow ⟨by decide, by decide, by decide⟩)) ev_i (rv_powW ⟨by decide, by decide +kernel⟩)) (rv_mod (by decide +kernel)))
      rw [List.map_map]
      exact g
    · obtain ⟨p, q, rfl, dk⟩ := dk_of rv (fun n hn => by
        obtain ⟨x, _, rfl⟩ := List.mem_map.mp hn
        exact Int.emod_nonneg _ (by decide +kernel)) (by rw [List.length_map]; exact hl) (Int.le_refl 0) h1 h2
      exact ret p q Hz (((n1.heap.trans na.heap).trans h4).trans nz.heap) ⟨_, _, _, _, dk Hz nz.sub⟩

theorem ok__law_take (T : Txt K mg fa fd) : FnG P w K mg base CX0 1 (fa 19) (fd 19) ["deck", "wide"] spTake := by
  refine fn_S T.d__law_take.F sc__law_take (fun vs H Q E h => by obtain ⟨_, _, _, rfl, _⟩ := h; rfl) (fun cdv Γ below s H vs Q E hg hr h => ?_)
  obtain ⟨p, q, m, rfl, h0, h1, ⟨ns, i, sd, c, dk⟩, ret⟩ := h
  have hu := hr.units
  refine ⟨_, (pss_cons (ps_while PassesOwn.never (PW.pt (pw_and (pt_cmpR op_lt (pe_ix (k_ix (K := K) rfl) (pv 0) pe_int (fun _ _ => rfl)) (pe_callB (k_len (K := K) rfl) rfl T.n_len (by decide +kernel) (pa_cons (pe_ix (k_ix (K := K) rfl) (pv 0) pe_int (fun _ _ => rfl)) pa_nil)) (nomark _)) (pw_and1 (pt_cmpR (k_eq (K := K) rfl hu) (pe_ix (k_ix (K := K) rfl) (pe_ix (k_ix (K := K) rfl) (pv 0) pe_int (fun _ _ => rfl)) (pe_ix (k_ix (K := K) rfl) (pv 0) pe_int (fun _ _ => rfl)) (fun _ _ => rfl)) pe_int (nomark _))))) (pss_one (ps_asg (pe_op op_addA (pe_ix (k_ix (K := K) rfl) (pv 0) pe_int (fun _ _ => rfl)) pe_int) (pg_sub (pv 0) pe_int set_list)))) (pss_cons (ps_if (pt_cmpR op_lt (pe_ix (k_ix (K := K) rfl) (pv 0) pe_int (fun _ _ => rfl)) (pe_callB (k_len (K := K) rfl) rfl T.n_len (by decide +kernel) (pa_cons (pe_ix (k_ix (K := K) rfl) (pv 0) pe_int (fun _ _ => rfl)) pa_nil)) (nomark _)) (pss_cons (ps_set (i := 2) sc__law_take.nd rfl (by first | exact Or.inl rfl | exact Or.inr rfl) (pe_ix (k_ix (K := K) rfl) (pe_ix (k_ix (K := K) rfl) (pv 0) pe_int (fun _ _ => rfl)) (pe_ix (k_ix (K := K) rfl) (pv 0) pe_int (fun _ _ => rfl)) (fun _ _ => rfl))) (pss_cons (ps_asg (pe_op op_fdivW (pv 2) (pv 1)) (pg_sub (pe_ix (k_ix (K := K) rfl) (pv 0) pe_int (fun _ _ => rfl)) (pe_ix (k_ix (K := K) rfl) (pv 0) pe_int (fun _ _ => rfl)) set_list)) (pss_one (ps_ret (pe_op op_mod (pe_callTy c_int rfl T.n_int (by decide +kernel) (pa_cons (pv 2) pa_nil)) (pv 1)))))) pss_nil) (pss_cons (ps_asg (pe_op op_addA (pe_ix (k_ix (K := K) rfl) (pv 0) pe_int (fun _ _ => rfl)) pe_int) (pg_sub (pv 0) pe_int set_list)) (pss_cons (ps_set (i := 3) sc__law_take.nd rfl (by first | exact Or.inl rfl | exact Or.inr rfl) (pe_op op_addA (pe_op op_addA (pe_op op_addA (pe_op op_pow (pe_ix (k_ix (K := K) rfl) (pv 0) pe_int (fun _ _ => rfl)) pe_int) (pe_op op_mul pe_int (pe_ix (k_ix (K := K) rfl) (pv 0) pe_int (fun _ _ => rfl)))) (pe_op op_mul pe_int (pe_ix (k_ix (K := K) rfl) (pv 0) pe_int (fun _ _ => rfl)))) pe_int)) (pss_cons (ps_asg (pe_op op_mod (pe_callTy c_int rfl T.n_int (by decide +kernel) (pa_cons (pv 3) pa_nil)) pe_int) (pg_sub (pv 0) pe_int set_list)) (pss_one (ps_ret (pe_op op_mod (pe_op op_fdiv (pe_callTy c_int rfl T.n_int (by decide +kernel) (pa_cons (pe_op op_addA (pe_op op_mul (pe_ix (k_ix (K := K) rfl) (pv 0) pe_int (fun _ _ => rfl)) (pe_ix (k_ix (K := K) rfl) (pv 0) pe_int (fun _ _ => rfl))) (pe_op op_fdiv (pe_ix (k_ix (K := K) rfl) (pv 0) pe_int (fun _ _ => rfl)) pe_int)) pa_nil)) pe_int) (pv 1))))))))), ?_⟩
  let B0 : Hp := fun _ => none
  have e0 : ∀ H', Ex B0 H' := fun H' a u h => nomatch h
  have cw : ∀ x : Int, CDivW x m := fun x => wide_div h0 (b := 900) (by omega) (by decide) (by decide)
  refine s_seq (show tWhile _ _ _ _ _ from ⟨fun k σ' H' => σ' = [some (.ref p), some (.int m), none, none] ∧ ∃ i', DkAt p q H' ns i' sd c ∧ But p q H H' ∧ k = ns.length - i'.toNat, ⟨_, rfl, i, dk, But.refl, rfl⟩, ?_⟩)
  rintro k σ' H' ⟨rfl, i', d, b, rfl⟩
  have rp := dkB_R (B := B0) (ns := ns) (i := i') (s := sd) (c := c) d.ne
  have sub := d.sub (e0 H')
  have i0 := d.i0
  refine (show EvC _ _ (dkB p q B0 ns i' sd c) (decide (i' < ((ns.map Dt.int).length : Nat)) && decide (ns.getD i'.toNat 0 = 0)) from ec_and (ec_t (ev_op (ev_op (ev_v rfl rp) ev_i (rv_ixL rfl)) (ev_cb (ea_cons (ev_op (ev_v rfl rp) ev_i (rv_ixL rfl)) ea_nil) rl_lenL) rv_lt)) (fun ht => ?_)) H' sub _ (fun H2 e2 => ?_)
  · have hi : i'.toNat < ns.length := by
      have := of_decide_eq_true ht
      rw [List.length_map] at this
      omega
    refine ec_t (ev_op (ev_op (ev_op (ev_v rfl rp) ev_i (rv_ixL rfl)) (ev_op (ev_v rfl rp) ev_i (rv_ixL rfl)) (rv_ixL (d := .int (ns.getD i'.toNat 0)) ?_)) ev_i (rv_inl rv_eqI))
    have e1 : i' = ((i'.toNat : Nat) : Int) := by omega
    rw [e1]
    refine atI_nat' ?_
    rw [List.getElem?_map, Int.toNat_natCast, List.getD_eq_getElem?_getD, List.getElem?_eq_getElem hi]
    rfl
  have d2 := d.ex e2
  have b2 : But p q H H2 := b.trans (But.of e2)
  split
  · rename_i hc
    rw [Bool.and_eq_true] at hc
    have hi : i'.toNat < ns.length := by
      have := of_decide_eq_true hc.1
      rw [List.length_map] at this
      omega
    refine ⟨fun σ' H' => σ' = [some (.ref p), some (.int m), none, none] ∧ DkAt p q H' ns (i' + 1) sd c ∧ But p q H H', fun σ' H' ⟨g1, g2, g3⟩ => ⟨_, ?_, g1, _, g2, g3, rfl⟩, ?_⟩
    · omega
    · refine s_setD (z := i' + 1) (k := 1) (j := 1) (d2.sub (e0 H2)) rfl (dkB_at d.ne) (ev_op (ev_op (ev_v rfl rp) ev_i (rv_ixL rfl)) ev_i (rv_inl rv_add)) ev_i rfl (fun H3 e3 => ?_)
      have d3 := d2.ex e3
      exact ⟨rfl, ⟨d3.ne, upd_same, (upd_ne (Ne.symm d3.ne)).trans d3.hq, d3.nn, d3.len, by omega, d3.s0, d3.s1⟩, (b2.trans (But.of e3)).trans But.updp⟩
  · walk_at "u_n"
    have rp := dkB_R (B := B0) (ns := ns) (i := i') (s := sd) (c := c) d.ne
    refine s_seq (s_if (b := decide (i' < ((ns.map Dt.int).length : Nat))) (d2.sub (e0 H2)) (ec_t (ev_op (ev_op (ev_v rfl rp) ev_i (rv_ixL rfl)) (ev_cb (ea_cons (ev_op (ev_v rfl rp) ev_i (rv_ixL rfl)) ea_nil) rl_lenL) rv_lt)) (fun hb H3 u3 => ?_) (fun hb H3 u3 => ?_))
    · have hi : i'.toNat < ns.length := by
        have := of_decide_eq_true hb
        rw [List.length_map] at this
        omega
      have ei : i' = ((i'.toNat : Nat) : Int) := by omega
      have hat : ns[i'.toNat]? = some ns[i'.toNat] := List.getElem?_eq_getElem hi
      have hAt := atI_nat' (xs := ns.map Dt.int) (m := i'.toNat) (v := .int ns[i'.toNat]) (by rw [List.getElem?_map, hat]; rfl)
      rw [← ei] at hAt
      have x0 : 0 ≤ ns[i'.toNat] := d.nn _ (List.getElem_mem _)
      have d3 := d2.ex u3.heap
      refine s_seq (s_asg (d := .int ns[i'.toNat]) u3.sub (ev_op (ev_op (ev_v rfl rp) ev_i (rv_ixL rfl)) (ev_op (ev_v rfl rp) ev_i (rv_ixL rfl)) (rv_ixL hAt)) fun v4 B4 H4 n4 r4 => ?_)
      cases r4
      walk_at "u_n"
      have d4 := d3.ex n4.heap
      refine s_seq (s_setDD (z := ns[i'.toNat] / m) (k := i') (j := i'.toNat) (d4.sub (e0 H4)) rfl (dkB_at d.ne) dkB_q (ev_op (ev_v rfl (.int _)) (ev_v rfl (.int _)) (rv_divW (cw _))) (ev_op (ev_v rfl rp) ev_i (rv_ixL rfl)) ?_ (fun H5 e5 => ?_))
      · rw [List.length_map]
        have := ixN_nat (n := ns.length) hi
        rw [← ei] at this
        exact this
      walk_at "u_n"
      have d5 := d4.ex e5
      have b5 : But p q H (upd H5 q (.lst ((ns.map V.int).set i'.toNat (.int (ns[i'.toNat] / m))))) := (((b2.trans (But.of u3.heap)).trans (But.of n4.heap)).trans (But.of e5)).trans But.updq
      refine s_ret (d := .int (ns[i'.toNat] % m)) (e0 _) (ev_op (ev_cb (ea_cons (ev_v rfl (.int _)) ea_nil) rl_int) (ev_v rfl (.int _)) (rv_mod h0)) (fun v6 B6 H6 n6 r6 => ?_)
      cases r6
      refine ret _ H6 (Int.emod_nonneg _ (by omega)) (Int.emod_lt_of_pos _ h0) (b5.trans (But.of n6.heap)) ⟨ns.set i'.toNat (ns[i'.toNat] / m), i', sd, c, DkAt.ex n6.heap ⟨d5.ne, (upd_ne d5.ne).trans d5.hp, ?_, fun y hy => ?_, by rw [List.length_set]; exact d5.len, d5.i0, d5.s0, d5.s1⟩⟩
      · rw [upd_same, List.map_set]
      · rcases List.mem_or_eq_of_mem_set hy with z | z
        · exact d.nn _ z
        · rw [z]; exact Int.ediv_nonneg x0 (by omega)
    · walk_at "u_n"
      have d3 := d2.ex u3.heap
      refine s_seq (s_setD (z := c + 1) (k := 3) (j := 3) (d3.sub (e0 H3)) rfl (dkB_at d.ne) (ev_op (ev_op (ev_v rfl rp) ev_i (rv_ixL rfl)) ev_i (rv_inl rv_add)) ev_i rfl (fun H4 e4 => ?_))
      walk_at "u_n"
      have d4 : DkAt p q (upd H4 p (.lst [.ref q, .int i', .int sd, .int (c + 1)])) ns i' sd (c + 1) := ⟨d3.ne, upd_same, (upd_ne (Ne.symm d3.ne)).trans (d3.ex e4).hq, d3.nn, d3.len, d3.i0, d3.s0, d3.s1⟩
      have b4 : But p q H (upd H4 p (.lst [.ref q, .int i', .int sd, .int (c + 1)])) := ((b2.trans (But.of u3.heap)).trans (But.of e4)).trans But.updp
      have rp4 := dkB_R (B := B0) (ns := ns) (i := i') (s := sd) (c := c + 1) d.ne
      have s0 := d.s0
      have s1 := d.s1
      obtain ⟨mx, hmx⟩ : ∃ mx : Int, mx = sd ^ (3 : Int).toNat + 69997 * sd + 1009 * (c + 1) + 5 := ⟨_, rfl⟩
      refine s_seq (s_asg (d := .int mx) (d4.sub (e0 _)) (EvR.is (d := .int (sd ^ (3 : Int).toNat + 69997 * sd + 1009 * (c + 1) + 5)) (ev_op (ev_op (ev_op (ev_op (ev_op (ev_v rfl rp4) ev_i (rv_ixL rfl)) ev_i (rv_pow ⟨by decide, by decide, by omega⟩)) (ev_op ev_i (ev_op (ev_v rfl rp4) ev_i (rv_ixL rfl)) (rv_mul (.inl ⟨by decide, by decide⟩))) (rv_inl rv_add)) (ev_op ev_i (ev_op (ev_v rfl rp4) ev_i (rv_ixL rfl)) (rv_mul (.inl ⟨by decide, by decide⟩))) (rv_inl rv_add)) ev_i (rv_inl rv_add)) (by rw [hmx])) fun v5 B5 H5 n5 r5 => ?_)
      cases r5
      walk_at "u_n"
      have d5 := d4.ex n5.heap
      refine s_seq (s_setD (z := mx % 2147483647) (k := 2) (j := 2) (d5.sub (e0 H5)) rfl (dkB_at d.ne) (ev_op (ev_cb (ea_cons (ev_v rfl (.int _)) ea_nil) rl_int) ev_i (rv_mod (by decide))) ev_i rfl (fun H6 e6 => ?_))
      walk_at "u_n"
      obtain ⟨z, hz⟩ : ∃ z : Int, z = mx % 2147483647 := ⟨_, rfl⟩
      have z0 : 0 ≤ z := by rw [hz]; exact Int.emod_nonneg _ (by decide)
      have z1 : z < 2147483647 := by rw [hz]; exact Int.emod_lt_of_pos _ (by decide)
      rw [← hz]
      have d6 : DkAt p q (upd H6 p (.lst [.ref q, .int i', .int z, .int (c + 1)])) ns i' z (c + 1) := ⟨d3.ne, upd_same, (upd_ne (Ne.symm d3.ne)).trans (d5.ex e6).hq, d3.nn, d3.len, d3.i0, z0, z1⟩
      have b6 : But p q H (upd H6 p (.lst [.ref q, .int i', .int z, .int (c + 1)])) := ((b4.trans (But.of n5.heap)).trans (But.of e6)).trans But.updp
      have rp6 := dkB_R (B := B0) (ns := ns) (i := i') (s := z) (c := c + 1) d.ne
      refine s_ret (d := .int ((z * z + z / 7919) / 31 % m)) (d6.sub (e0 _)) (ev_op (ev_op (ev_cb (ea_cons (ev_op (ev_op (ev_op (ev_v rfl rp6) ev_i (rv_ixL rfl)) (ev_op (ev_v rfl rp6) ev_i (rv_ixL rfl)) (rv_mul (.inl ⟨by omega, by omega⟩))) (ev_op (ev_op (ev_v rfl rp6) ev_i (rv_ixL rfl)) ev_i (rv_div ⟨by decide, by decide⟩)) (rv_inl rv_add)) ea_nil) rl_int) ev_i (rv_div ⟨by decide, by decide⟩)) (ev_v rfl (.int _)) (rv_mod h0)) (fun v7 B7 H7 n7 r7 => ?_)
      cases r7
      exact ret _ H7 (Int.emod_nonneg _ (by omega)) (Int.emod_lt_of_pos _ h0) (b6.trans (But.of n7.heap)) ⟨_, _, _, _, d6.ex n7.heap⟩

def g__law_kinds (mg : Str → Option Value) (ds : List Dt) (d : Dt) : Prop := ∃ C, ds = [.exc C] ∧ (C = cAt mg "PaintError" ∨ C ∈ LX mg) ∧ d = .lst (kindsOf mg C)
theorem ok__law_kinds (T : Txt K mg fa fd) : FnG P w K mg base CX0 1 (fa 20) (fd 20) ["e"] (spD (g__law_kinds mg)) := by
  refine fn_D T.d__law_kinds.F sc__law_kinds (fun ds d h => by obtain ⟨_, rfl, _⟩ := h; rfl) (fun cdv Γ below s B H vs ds d Q E hg hr e ra hd ret => ?_)
  obtain ⟨C, rfl, hC, rfl⟩ := hd
  rcases ra with _ | ⟨r1, _ | _⟩
  have hu := hr.units
  have cc : Cls K (cAt mg "PaintError") C := hC.elim (fun z => z ▸ cls_base T) (cls_of T C)
  have ki : ∀ {σ : L2.St} {B1 : Hp} {v : V} (y : Str), y ∈ EX → σ[0]? = some (some v) → R B1 v (.exc C) → EvR (tCB (rIsX K) (tCons (tVar 0) (tCons (tC (.ref (cAt mg y))) tNil))) σ B1 (.bl (decide (C = cAt mg y))) := fun y hy hv r =>
    ev_isX (cv := .ref (cAt mg y)) (ev_v hv r) cc.e (fun u h => h) (kit_ref cc (cls_of T _ (List.mem_map_of_mem hy)) (LX_base T _ (List.mem_map_of_mem hy)))
  refine ⟨_, (pss_cons (ps_set (i := 1) sc__law_kinds.nd rfl (by first | exact Or.inl rfl | exact Or.inr rfl) (pe_lst (pa_cons (pe_callB (k_isX (K := K) rfl) rfl T.n_isinstance (by decide +kernel) (pa_cons (pv 0) (pa_cons (pe_glob (v := .ref (cAt mg "InvalidFrame")) rfl T.e_InvalidFrame.g rfl) pa_nil))) (pa_cons (pe_callB (k_isX (K := K) rfl) rfl T.n_isinstance (by decide +kernel) (pa_cons (pv 0) (pa_cons (pe_glob (v := .ref (cAt mg "InvalidProgram")) rfl T.e_InvalidProgram.g rfl) pa_nil))) (pa_cons (pe_callB (k_isX (K := K) rfl) rfl T.n_isinstance (by decide +kernel) (pa_cons (pv 0) (pa_cons (pe_glob (v := .ref (cAt mg "InvalidSetting")) rfl T.e_InvalidSetting.g rfl) pa_nil))) pa_nil))))) (pss_cons (ps_set (i := 1) sc__law_kinds.nd rfl (by first | exact Or.inl rfl | exact Or.inr rfl) (pe_op op_addA (pv 1) (pe_lst (pa_cons (pe_callB (k_isX (K := K) rfl) rfl T.n_isinstance (by decide +kernel) (pa_cons (pv 0) (pa_cons (pe_glob (v := .ref (cAt mg "InvalidCell")) rfl T.e_InvalidCell.g rfl) pa_nil))) (pa_cons (pe_callB (k_isX (K := K) rfl) rfl T.n_isinstance (by decide +kernel) (pa_cons (pv 0) (pa_cons (pe_glob (v := .ref (cAt mg "InvalidFacts")) rfl T.e_InvalidFacts.g rfl) pa_nil))) (pa_cons (pe_callB (k_isX (K := K) rfl) rfl T.n_isinstance (by decide +kernel) (pa_cons (pv 0) (pa_cons (pe_glob (v := .ref (cAt mg "InvalidIndex")) rfl T.e_InvalidIndex.g rfl) pa_nil))) pa_nil)))))) (pss_cons (ps_set (i := 1) sc__law_kinds.nd rfl (by first | exact Or.inl rfl | exact Or.inr rfl) (pe_op op_addA (pv 1) (pe_lst (pa_cons (pe_callB (k_isX (K := K) rfl) rfl T.n_isinstance (by decide +kernel) (pa_cons (pv 0) (pa_cons (pe_glob (v := .ref (cAt mg "InvalidColour")) rfl T.e_InvalidColour.g rfl) pa_nil))) (pa_cons (pe_callB (k_isX (K := K) rfl) rfl T.n_isinstance (by decide +kernel) (pa_cons (pv 0) (pa_cons (pe_glob (v := .ref (cAt mg "InvalidStatement")) rfl T.e_InvalidStatement.g rfl) pa_nil))) (pa_cons (pe_callB (k_isX (K := K) rfl) rfl T.n_isinstance (by decide +kernel) (pa_cons (pv 0) (pa_cons (pe_glob (v := .ref (cAt mg "InvalidWidths")) rfl T.e_InvalidWidths.g rfl) pa_nil))) pa_nil)))))) (pss_cons (ps_set (i := 1) sc__law_kinds.nd rfl (by first | exact Or.inl rfl | exact Or.inr rfl) (pe_op op_addA (pv 1) (pe_lst (pa_cons (pe_callB (k_isX (K := K) rfl) rfl T.n_isinstance (by decide +kernel) (pa_cons (pv 0) (pa_cons (pe_glob (v := .ref (cAt mg "InvalidValue")) rfl T.e_InvalidValue.g rfl) pa_nil))) (pa_cons (pe_callB (k_isX (K := K) rfl) rfl T.n_isinstance (by decide +kernel) (pa_cons (pv 0) (pa_cons (pe_glob (v := .ref (cAt mg "Impossible")) rfl T.e_Impossible.g rfl) pa_nil))) (pa_cons (pe_callB (k_isX (K := K) rfl) rfl T.n_isinstance (by decide +kernel) (pa_cons (pv 0) (pa_cons (pe_glob (v := .ref (cAt mg "OtherFrame")) rfl T.e_OtherFrame.g rfl) pa_nil))) pa_nil)))))) (pss_one (ps_ret (pe_op op_addA (pv 1) (pe_lst (pa_cons (pe_callB (k_isX (K := K) rfl) rfl T.n_isinstance (by decide +kernel) (pa_cons (pv 0) (pa_cons (pe_glob (v := .ref (cAt mg "NothingToUndo")) rfl T.e_NothingToUndo.g rfl) pa_nil))) (pa_cons (pe_callB (k_isX (K := K) rfl) rfl T.n_isinstance (by decide +kernel) (pa_cons (pv 0) (pa_cons (pe_glob (v := .ref (cAt mg "InvalidCommand")) rfl T.e_InvalidCommand.g rfl) pa_nil))) (pa_cons (pe_callB (k_isX (K := K) rfl) rfl T.n_isinstance (by decide +kernel) (pa_cons (pv 0) (pa_cons (pe_glob (v := .ref (cAt mg "InvalidText")) rfl T.g_InvalidText rfl) pa_nil))) pa_nil))))))))))), ?_⟩
  refine s_seq (s_asg e (ev_lst (ea_cons (ki _ (by decide) rfl r1) (ea_cons (ki _ (by decide) rfl r1) (ea_cons (ki _ (by decide) rfl r1) ea_nil))) (by simp)) fun v1 B1 H1 n1 q1 => ?_)
  walk_at "u_n"
  have r2 := r1.mono n1.ext
  refine s_seq (s_asg n1.sub (ev_op (ev_v rfl q1) (ev_lst (ea_cons (ki _ (by decide) rfl r2) (ea_cons (ki _ (by decide) rfl r2) (ea_cons (ki _ (by decide) rfl r2) ea_nil))) (by simp)) (rv_inr (rv_cat (by simp)))) fun v2 B2 H2 n2 q2 => ?_)
  walk_at "u_n"
  have r3 := r2.mono n2.ext
  refine s_seq (s_asg n2.sub (ev_op (ev_v rfl q2) (ev_lst (ea_cons (ki _ (by decide) rfl r3) (ea_cons (ki _ (by decide) rfl r3) (ea_cons (ki _ (by decide) rfl r3) ea_nil))) (by simp)) (rv_inr (rv_cat (by simp)))) fun v3 B3 H3 n3 q3 => ?_)
  walk_at "u_n"
  have r4 := r3.mono n3.ext
  refine s_seq (s_asg n3.sub (ev_op (ev_v rfl q3) (ev_lst (ea_cons (ki _ (by decide) rfl r4) (ea_cons (ki _ (by decide) rfl r4) (ea_cons (ki _ (by decide) rfl r4) ea_nil))) (by simp)) (rv_inr (rv_cat (by simp)))) fun v4 B4 H4 n4 q4 => ?_)
  walk_at "u_n"
  have r5 := r4.mono n4.ext
  refine s_retE n4.sub (ev_op (ev_v rfl q4) (ev_lst (ea_cons (ki _ (by decide) rfl r5) (ea_cons (ki _ (by decide) rfl r5) (ea_cons (ki _ (by decide) rfl r5) ea_nil))) (by simp)) (rv_inr (rv_cat (by simp)))) rfl (fun v Bz Hz nz rv => ret v Bz Hz ((((n1.trans n2).trans n3).trans n4).trans nz) rv)

def spLaw (K : PySem.W.Frag) : Sp := fun vs H Q _ => ∃ (a : Addr) (ns : List Int), vs = [.ref a] ∧ Scr K a ns H ∧ ns.length ≤ 63 ∧ ∀ H', Q (.bl true) H'
def madeD (mg : Str → Option Value) : Dt := .lst (((LX mg).take 14).map .exc)
def spotsD (r : Int) : List Dt := [.int 0, .int 1, .int r, .int (10 ^ (30 : Int).toNat), .str "7", .non, .tup [.int 1, .int 2], .bl true]
def okSpot (d : Dt) : Prop := Fit (.lst [d, d])
theorem spot_ok {r : Int} (h0 : 0 ≤ r) (h1 : r < 4000) : ∀ d ∈ spotsD r, okSpot d := by
  have num : ∀ i : Int, i.natAbs < 10 ^ 60 → okSpot (.int i) := fun i h => ⟨by simp [Dt.fit, fitAll, h], by simp [Dt.wt, wtAll], by simp [Dt.dep, depAll]⟩
  intro d h
  simp only [spotsD, List.mem_cons, List.not_mem_nil, or_false] at h
  rcases h with rfl | rfl | rfl | rfl | rfl | rfl | rfl | rfl
  · exact num _ (by decide)
  · exact num _ (by decide)
  · exact num _ (by omega)
  · exact num _ (by decide +kernel)
  · exact ⟨by decide +kernel, by decide +kernel, by decide +kernel⟩
  · exact ⟨by decide +kernel, by decide +kernel, by decide +kernel⟩
  · exact ⟨by decide +kernel, by decide +kernel, by decide +kernel⟩
  · exact ⟨by decide +kernel, by decide +kernel, by decide +kernel⟩
theorem ev_place {σ : L2.St} {B : Hp} {d : Dt} {a x C fI : Addr} {v : V} {n : Nat} (hv : σ[n]? = some (some (.ref a))) (T : TextC K C fI) (ha : B a = some (exo a C (some x))) (hx : B x = some (exd x [("place", v)])) (r : R B v d) : EvR (tPlace K (tVar n)) σ B d := fun H1 e Q q =>
  ⟨_, hv, a, C, x, fI, v, rfl, T, e _ _ ha, e _ _ hx, q v B H1 (New.refl e) r⟩
theorem made_at (mg : Str → Option Value) {j : Nat} (h : j < 14) (hL : j < (LX mg).length) : atI (((LX mg).take 14).map Dt.exc) (j : Int) = some (.exc (LX mg)[j]) := by
  refine atI_nat' ?_
  rw [List.getElem?_map, List.getElem?_take, if_pos h, List.getElem?_eq_getElem hL]
  rfl
theorem text_at {x y : Dt} (hx : x = .lst [.str "", .str "a", .str "no such thing", .str ⟨(List.replicate 30 ("9" : Str).cps).foldl (· ++ ·) #[]⟩]) (hy : ∃ r, y = .int r ∧ 0 ≤ r ∧ r < 4) : ∃ z, (∃ s, z = Dt.str s) ∧ RV (rIx K) x y z := by
  subst hx
  obtain ⟨r, rfl, h0, h1⟩ := hy
  have : r = 0 ∨ r = 1 ∨ r = 2 ∨ r = 3 := by omega
  rcases this with rfl | rfl | rfl | rfl
  · exact ⟨_, ⟨_, rfl⟩, rv_ixL rfl⟩
  · exact ⟨_, ⟨_, rfl⟩, rv_ixL rfl⟩
  · exact ⟨_, ⟨_, rfl⟩, rv_ixL rfl⟩
  · exact ⟨_, ⟨_, rfl⟩, rv_ixL rfl⟩
theorem ok_law (T : Txt K mg fa fd) : FnG P w K mg base CX0 4 (fa 21) (fd 21) ["script"] (spLaw K) := by
  refine fn_S T.d_law.F sc_law (fun vs H Q E h => by obtain ⟨_, _, rfl, _⟩ := h; rfl) (fun cdv Γ below s H vs Q E hg hr h => ?_)
  obtain ⟨a, ns, rfl, ⟨hs, _⟩, hl, ret⟩ := h
  have hu := hr.units
  refine ⟨_, (pss_cons (ps_set (i := 1) sc_law.nd rfl (by first | exact Or.inl rfl | exact Or.inr rfl) (pe_go (ok__law_deck T) hg (hr.mono (by decide)) rfl T.d__law_deck.at_ T.d__law_deck.F.kp (bn__law_deck T) pass0 (pa_cons (pv 0) pa_nil))) (pss_cons (ps_for PassesOwn.never rfl (pi_range1 rfl T.n_range (pa_cons pe_int pa_nil)) (pg_name (i := 2) sc_law.nd rfl (by first | exact Or.inl rfl | exact Or.inr rfl)) (pss_cons (ps_set (i := 3) sc_law.nd rfl (by first | exact Or.inl rfl | exact Or.inr rfl) (pe_ix (k_ix (K := K) rfl) (pe_lst (pa_cons pe_str (pa_cons pe_str (pa_cons pe_str (pa_cons (pe_op op_nines pe_str pe_int) pa_nil))))) (pe_go (ok__law_take T) hg (hr.mono (by decide)) rfl T.d__law_take.at_ T.d__law_take.F.kp (bn__law_take T) pass0 (pa_cons (pv 1) (pa_cons pe_int pa_nil))) (fun _ _ => rfl))) (pss_cons (ps_set (i := 4) sc_law.nd rfl (by first | exact Or.inl rfl | exact Or.inr rfl) (pe_lst (pa_cons (pe_exc1 PySem.F.excBase_ValueError T.e_InvalidFrame.x T.e_InvalidFrame.g T.e_InvalidFrame.k rfl (pv 3)) (pa_cons (pe_exc1 PySem.F.excBase_ValueError T.e_InvalidProgram.x T.e_InvalidProgram.g T.e_InvalidProgram.k rfl (pv 3)) (pa_cons (pe_exc1 PySem.F.excBase_ValueError T.e_InvalidSetting.x T.e_InvalidSetting.g T.e_InvalidSetting.k rfl (pv 3)) pa_nil))))) (pss_cons (ps_set (i := 4) sc_law.nd rfl (by first | exact Or.inl rfl | exact Or.inr rfl) (pe_op op_addA (pv 4) (pe_lst (pa_cons (pe_exc1 PySem.F.excBase_ValueError T.e_InvalidCell.x T.e_InvalidCell.g T.e_InvalidCell.k rfl (pv 3)) (pa_cons (pe_exc1 PySem.F.excBase_ValueError T.e_InvalidFacts.x T.e_InvalidFacts.g T.e_InvalidFacts.k rfl (pv 3)) (pa_cons (pe_exc1 PySem.F.excBase_ValueError T.e_InvalidIndex.x T.e_InvalidIndex.g T.e_InvalidIndex.k rfl (pv 3)) pa_nil)))))) (pss_cons (ps_set (i := 4) sc_law.nd rfl (by first | exact Or.inl rfl | exact Or.inr rfl) (pe_op op_addA (pv 4) (pe_lst (pa_cons (pe_exc1 PySem.F.excBase_ValueError T.e_InvalidColour.x T.e_InvalidColour.g T.e_InvalidColour.k rfl (pv 3)) (pa_cons (pe_exc1 PySem.F.excBase_ValueError T.e_InvalidStatement.x T.e_InvalidStatement.g T.e_InvalidStatement.k rfl (pv 3)) (pa_cons (pe_exc1 PySem.F.excBase_ValueError T.e_InvalidWidths.x T.e_InvalidWidths.g T.e_InvalidWidths.k rfl (pv 3)) pa_nil)))))) (pss_cons (ps_set (i := 4) sc_law.nd rfl (by first | exact Or.inl rfl | exact Or.inr rfl) (pe_op op_addA (pv 4) (pe_lst (pa_cons (pe_exc1 PySem.F.excBase_ValueError T.e_InvalidValue.x T.e_InvalidValue.g T.e_InvalidValue.k rfl (pv 3)) (pa_cons (pe_exc1 PySem.F.excBase_ValueError T.e_Impossible.x T.e_Impossible.g T.e_Impossible.k rfl (pv 3)) (pa_cons (pe_exc1 PySem.F.excBase_ValueError T.e_OtherFrame.x T.e_OtherFrame.g T.e_OtherFrame.k rfl (pv 3)) pa_nil)))))) (pss_cons (ps_set (i := 4) sc_law.nd rfl (by first | exact Or.inl rfl | exact Or.inr rfl) (pe_op op_addA (pv 4) (pe_lst (pa_cons (pe_exc1 PySem.F.excBase_ValueError T.e_NothingToUndo.x T.e_NothingToUndo.g T.e_NothingToUndo.k rfl (pv 3)) (pa_cons (pe_exc1 PySem.F.excBase_ValueError T.e_InvalidCommand.x T.e_InvalidCommand.g T.e_InvalidCommand.k rfl (pv 3)) pa_nil))))) (pss_cons (ps_for PassesOwn.never rfl (pi_range1 rfl T.n_range (pa_cons pe_int pa_nil)) (pg_name (i := 5) sc_law.nd rfl (by first | exact Or.inl rfl | exact Or.inr rfl)) (pss_cons (ps_if (PW.pt (pw_or (pt_not (pt_val (pe_callB (k_isX (K := K) rfl) rfl T.n_isinstance (by decide +kernel) (pa_cons (pe_ix (k_ix (K := K) rfl) (pv 4) (pv 5) (fun _ _ => rfl)) (pa_cons (pe_glob (v := .ref (cAt mg "PaintError")) rfl T.e_PaintError.g rfl) pa_nil))))) (pw_or1 (pt_not (pt_val (pe_callB (k_isX (K := K) rfl) rfl T.n_isinstance (by decide +kernel) (pa_cons (pe_ix (k_ix (K := K) rfl) (pv 4) (pv 5) (fun _ _ => rfl)) (pa_cons (pe_bltn (v := .ty "ValueError") rfl T.n_ValueError (by decide +kernel) rfl) pa_nil)))))))) (pss_one (ps_ret pe_bl)) pss_nil) (pss_one (ps_if (pt_cmpR (k_ne (K := K) rfl hu) (pe_go (ok__law_kinds T) hg (hr.mono (by decide)) rfl T.d__law_kinds.at_ T.d__law_kinds.F.kp (bn__law_kinds T) pass0 (pa_cons (pe_ix (k_ix (K := K) rfl) (pv 4) (pv 5) (fun _ _ => rfl)) pa_nil)) (pe_lc (own := [("at", 6)]) (g := (gName 6)) (tt := tYes) rfl sc_law.nd (pi_range1 rfl T.n_range (pa_cons pe_int pa_nil)) (blkOk_by (N := ["script", "deck", "turn", "text_here", "made", "k", "at", "spot", "one", "two", "plain_one"]) (sc := defScope s_law) (by decide +kernel)) (fun _ _ _ _ _ => (pg_name (i := 6) sc_law.nd rfl (by first | exact Or.inl rfl | exact Or.inr rfl))) (fun _ _ _ _ _ => pts_nil) (fun _ _ _ _ _ => (pe_cmpR (k_eq (K := K) rfl hu) (pv 5) (pv 6) (nomark _)))) (nomark _)) (pss_one (ps_ret pe_bl)) pss_nil)))) (pss_one (ps_for PassesOwn.never rfl (k_seq (K := K) rfl (pe_tup (pa_cons pe_int (pa_cons pe_int (pa_cons (pe_go (ok__law_take T) hg (hr.mono (by decide)) rfl T.d__law_take.at_ T.d__law_take.F.kp (bn__law_take T) pass0 (pa_cons (pv 1) (pa_cons pe_int pa_nil))) (pa_cons (pe_op op_pow pe_int pe_int) (pa_cons pe_str (pa_cons pe_non (pa_cons (pe_tup (pa_cons pe_int (pa_cons pe_int pa_nil))) (pa_cons pe_bl pa_nil)))))))))) (pg_name (i := 7) sc_law.nd rfl (by first | exact Or.inl rfl | exact Or.inr rfl)) (pss_cons (ps_par (i := 8) (j := 9) rfl sc_law.nd rfl rfl (by decide) rfl rfl (pa_cons (pe_oexV T.t_InvalidText (ok_init T) hg (hr.mono (by decide)) (bn_init T) rfl T.g_InvalidText (pa_cons (pv 7) pa_nil)) (pa_cons (pe_oexVK T.t_InvalidText (ok_init T) hg (hr.mono (by decide)) (kb_init T) (fun _ _ => rfl) (fun _ _ => rfl) rfl T.g_InvalidText (pk_cons (pv 7) pk_nil)) pa_nil)) rfl) (pss_cons (ps_if (PW.pt (pw_or (pt_cmpR (k_ne (K := K) rfl hu) (pe_go (ok__law_kinds T) hg (hr.mono (by decide)) rfl T.d__law_kinds.at_ T.d__law_kinds.F.kp (bn__law_kinds T) pass0 (pa_cons (pv 8) pa_nil)) (pe_lc (own := [("at", 6)]) (g := (gName 6)) (tt := tYes) rfl sc_law.nd (pi_range1 rfl T.n_range (pa_cons pe_int pa_nil)) (blkOk_by (N := ["script", "deck", "turn", "text_here", "made", "k", "at", "spot", "one", "two", "plain_one"]) (sc := defScope s_law) (by decide +kernel)) (fun _ _ _ _ _ => (pg_name (i := 6) sc_law.nd rfl (by first | exact Or.inl rfl | exact Or.inr rfl))) (fun _ _ _ _ _ => pts_nil) (fun _ _ _ _ _ => (pe_cmpR (k_eq (K := K) rfl hu) (pv 6) pe_int (nomark _)))) (nomark _)) (pw_or1 (pt_not (pt_val (pe_callB (k_isX (K := K) rfl) rfl T.n_isinstance (by decide +kernel) (pa_cons (pv 8) (pa_cons (pe_glob (v := .ref (cAt mg "PaintError")) rfl T.e_PaintError.g rfl) pa_nil)))))))) (pss_one (ps_ret pe_bl)) pss_nil) (pss_one (ps_if (PW.pt (pw_or (pt_cmpR (k_ne (K := K) rfl hu) (pe_callB (c_repr hg hu) rfl T.n_repr (by decide +kernel) (pa_cons (pe_lst (pa_cons (pe_place (pv 8)) (pa_cons (pe_place (pv 9)) pa_nil))) pa_nil)) (pe_callB (c_repr hg hu) rfl T.n_repr (by decide +kernel) (pa_cons (pe_lst (pa_cons (pv 7) (pa_cons (pv 7) pa_nil))) pa_nil)) (nomark _)) (pw_or1 (pt_not (pt_val (pe_callB (k_isX (K := K) rfl) rfl T.n_isinstance (by decide +kernel) (pa_cons (pv 9) (pa_cons (pe_bltn (v := .ty "ValueError") rfl T.n_ValueError (by decide +kernel) rfl) pa_nil)))))))) (pss_one (ps_ret pe_bl)) pss_nil)))))))))))))) (pss_cons (ps_set (i := 10) sc_law.nd rfl (by first | exact Or.inl rfl | exact Or.inr rfl) (pe_exc1 PySem.F.excBase_ValueError T.e_PaintError.x T.e_PaintError.g T.e_PaintError.k rfl pe_str)) (pss_one (ps_ret (pe_and (pe_callB (k_isX (K := K) rfl) rfl T.n_isinstance (by decide +kernel) (pa_cons (pv 10) (pa_cons (pe_bltn (v := .ty "ValueError") rfl T.n_ValueError (by decide +kernel) rfl) pa_nil))) (pe_one (pe_cmpR (k_eq (K := K) rfl hu) (pe_go (ok__law_kinds T) hg (hr.mono (by decide)) rfl T.d__law_kinds.at_ T.d__law_kinds.F.kp (bn__law_kinds T) pass0 (pa_cons (pv 10) pa_nil)) (pe_op op_rep (pe_lst (pa_cons pe_bl pa_nil)) pe_int) (nomark _))))))))), ?_⟩
  let B0 : Hp := fun _ => none
  have e0 : ∀ H', Ex B0 H' := fun H' a u h => nomatch h
  refine s_seq (show tAsg (tCall (spDeck K) _ _ (tCons (tVar 0) tNil)) _ _ _ _ from ⟨_, rfl, a, ns, rfl, hs, hl, fun p q H1 e1 dk => ?_⟩)
  have o0 : Out p q B0 := ⟨rfl, rfl⟩
  refine s_seq (s_forR (B := B0) (n := 3) (e0 _) (ea_cons ev_i ea_nil) ⟨by decide, by decide⟩ (fun i σ' H' => ∃ w2 w3 w4 w5 w6 w7 w8 w9 w10 : Option V, σ' = [some (.ref a), some (.ref p), w2, w3, w4, w5, w6, w7, w8, w9, w10] ∧ Dk p q H') ?_ ?_ ?_)
  · intro H2 u2
    exact ⟨_, _, _, _, _, _, _, _, _, rfl, dk.ex u2.heap⟩
  · rintro i σ' H' hi ⟨w2, w3, w4, w5, w6, w7, w8, w9, w10, rfl, dk⟩
    walk_at "u_n"
    refine s_seq (s_asgK (B := B0) (P := fun d => ∃ s, d = Dt.str s) (e0 _) o0 dk (ek_op (P1 := fun d => d = _) (P2 := fun d => ∃ r, d = Dt.int r ∧ 0 ≤ r ∧ r < 4) (ek_R (ev_lst (ea_cons ev_s (ea_cons ev_s (ea_cons ev_s (ea_cons ev_nines ea_nil)))) (by simp)) rfl) (ek_take rfl ev_i (by decide) (by decide)) (fun x y => text_at)) fun v3 B1 H1 d3 pd n1 o1 k1 r3 => ?_)
    obtain ⟨txt, rfl⟩ := pd
    walk_at "u_n"
    have sub1 := n1.sub
    refine s_seq (s_asg sub1 (by walk_at "u_ev") fun v4 B2 H2 n2 q2 => ?_)
    walk_at "u_n"
    have r3b := r3.mono n2.ext
    refine s_seq (s_asg n2.sub (by walk_at "u_ev") fun v5 B3 H3 n3 q3 => ?_)
    walk_at "u_n"
    have r3c := r3b.mono n3.ext
    refine s_seq (s_asg n3.sub (by walk_at "u_ev") fun v6 B4 H4 n4 q4 => ?_)
    walk_at "u_n"
    have r3d := r3c.mono n4.ext
    refine s_seq (s_asg n4.sub (by walk_at "u_ev") fun v7 B5 H5 n5 q5 => ?_)
    walk_at "u_n"
    have r3e := r3d.mono n5.ext
    refine s_seq (s_asg n5.sub (by walk_at "u_ev") fun v8 B6 H6 n6 q6 => ?_)
    walk_at "u_n"
    have qm : R B6 v8 (madeD mg) := q6
    have k6 : Dk p q H6 := k1.ex ((((n2.heap.trans n3.heap).trans n4.heap).trans n5.heap).trans n6.heap)
    have cp := cls_base T
    refine s_seq (s_forR (B := B6) (n := 14) n6.sub (ea_cons ev_i ea_nil) ⟨by decide, by decide⟩ (fun _ σ' H' => ∃ w5 w6 w7 w8 w9 w10 : Option V, σ' = [some (.ref a), some (.ref p), some (.int (i : Int)), some v3, some v8, w5, w6, w7, w8, w9, w10] ∧ Ex H6 H') ?_ ?_ ?_)
    · intro H7 u7
      exact ⟨_, _, _, _, _, _, rfl, u7.heap⟩
    · rintro j σ' H' hj ⟨w5, w6, w7, w8, w9, w10, rfl, eH⟩
      have eB : Ex B6 H' := n6.sub.trans eH
      have hj2 : j < 14 := by omega
      have hjL : j < (LX mg).length := by rw [LX_len]; omega
      have cc := cls_of T _ (List.getElem_mem hjL)
      have mk : EvR (tOp (rIx K) (tVar 4) (tVar 5)) ([some (.ref a), some (.ref p), some (.int (i : Int)), some v3, some v8, some (.int (j : Int)), w6, w7, w8, w9, w10] : L2.St) B6 (.exc (LX mg)[j]) := ev_op (ev_v rfl qm) (ev_v rfl (.int _)) (rv_ixL (made_at mg hj2 hjL))
      refine s_seq (s_if (b := (!true || !true)) eB (ec_or (ec_not (ec_v (ev_isX (cv := .ref (cAt mg "PaintError")) mk cc.e (fun u h => h) (kit_base cc cp)))) (fun _ => ec_not (ec_v (ev_isX (cv := .type "ValueError") mk cc.e (fun u h => h) (kit_value cc))))) (fun h => absurd h (by decide)) (fun _ H7 u7 => ?_))
      walk_at "u_n"
      have rows : kindsOf mg (LX mg)[j] = rowOf j := kinds_row T hjL
      refine s_if (b := !(PyData.eqv (Dt.lst (rowOf j)).py (Dt.lst (rowOf j)).py)) u7.sub (ec_t (ev_op ((ev_call (ea_cons mk ea_nil) ⟨_, rfl, .inr (List.getElem_mem hjL), rfl⟩).is (congrArg Dt.lst rows)) (ev_lcR1 (n := 15) (f := fun q : Nat => .bl (decide ((j : Int) = (q : Int)))) (ea_cons ev_i ea_nil) ⟨by decide, by decide⟩ (fun _ => rfl) (fun q B1 hq e1 => ev_op (ev_v (n := 5) rfl (.int _)) (ev_v (n := 6) rfl (.int _)) (rv_inl rv_eqI))) (rv_inr (rv_neD (x := .lst (rowOf j)) (y := .lst (rowOf j)) (row_ok ⟨j, by omega⟩) (row_ok ⟨j, by omega⟩))))) (fun h => ?_) (fun _ H8 u8 => ?_)
      · rw [row_eqv ⟨j, by omega⟩] at h
        exact absurd h (by decide)
      · exact ⟨_, _, _, _, _, _, rfl, (eH.trans u7.heap).trans u8.heap⟩
    · rintro σ' H' ⟨w5, w6, w7, w8, w9, w10, rfl, eH⟩
      walk_at "u_n"
      have k7 := k6.ex eH
      have hk : EvK p q (tTup (tCons (tC (.int 0)) (tCons (tC (.int 1)) (tCons (tCall spTake [] E0 (tCons (tVar 1) (tCons (tC (.int 4000)) tNil))) (tCons (tOp (rI CPow fun i j => .int (i ^ j.toNat)) (tC (.int 10)) (tC (.int 30))) (tCons (tC (.str "7")) (tCons (tC .non) (tCons (tTup (tCons (tC (.int 1)) (tCons (tC (.int 2)) tNil))) (tCons (tC (.bl true)) tNil))))))))) ([some (.ref a), some (.ref p), some (.int (i : Int)), some v3, some v8, w5, w6, w7, w8, w9, w10] : L2.St) B0 (fun d => ∃ r, d = .tup (spotsD r) ∧ 0 ≤ r ∧ r < 4000) := by
        refine ek_tup (eka_cons (ek_R (P := fun d => d = _) ev_i rfl) (eka_cons (ek_R (P := fun d => d = _) ev_i rfl) (eka_cons (ek_take rfl ev_i (by decide) (by decide)) (eka_cons (ek_R (P := fun d => d = _) (ev_op ev_i ev_i (rv_pow ⟨by decide, by decide, by decide⟩)) rfl) (eka_cons (ek_R (P := fun d => d = _) ev_s rfl) (eka_cons (ek_R (P := fun d => d = _) ev_n rfl) (eka_cons (ek_R (P := fun d => d = _) (ev_tup (ea_cons ev_i (ea_cons ev_i ea_nil)) (by simp)) rfl) (eka_cons (ek_R (P := fun d => d = _) ev_b rfl) eka_nil)))))))) ?_
        rintro ds ⟨_, _, rfl, rfl, _, _, rfl, rfl, _, _, rfl, ⟨r, rfl, h0, h1⟩, _, _, rfl, rfl, _, _, rfl, rfl, _, _, rfl, rfl, _, _, rfl, rfl, _, _, rfl, rfl, rfl⟩
        exact ⟨by simp, r, rfl, h0, h1⟩
      refine s_forK (e0 _) o0 k7 hk fun v B7 H7 d pd n7 k8 rv => ?_
      obtain ⟨r, rfl, h0, h1⟩ := pd
      refine q_for n7.sub (ev_val rv) (Items.tup _) (fun Ba Ha _ σ' H' => ∃ w7 w8 w9 : Option V, σ' = [some (.ref a), some (.ref p), some (.int (i : Int)), some v3, some v8, w5, w6, w7, w8, w9, w10] ∧ Ex Ba H' ∧ Dk p q H') ?_ ?_ ?_ ?_
      · intro Ba Ha na
        exact ⟨_, _, _, rfl, na.sub, k8.ex na.heap⟩
      · rintro Ba Ha j σ' H' ⟨w7, w8, w9, rfl, h2, h3⟩
        exact h2
      · rintro Ba Ha j d v σ' H' na hd rd ⟨w7, w8, w9, rfl, eB, kd⟩
        have ok := spot_ok h0 h1 d (List.mem_of_getElem? hd)
        have tc : TextC K (cAt mg "InvalidText") (fa 1000) := T.t_InvalidText
        have mem : cAt mg "InvalidText" ∈ LX mg := by simp [LX, EX]
        have cc := cls_of T (cAt mg "InvalidText") mem
        refine s_seq (show tPar 8 9 _ _ _ _ from ⟨_, rfl, _, rfl, fun a1 x1 f1 g1 n1 => ⟨_, rfl, _, rfl, fun a2 x2 f2 g2 n2 => ⟨_, _, rfl, ?_⟩⟩⟩)
        walk_at "u_n"
        have N1 := New.one (o := exd x1 [("place", v)]) eB g1
        have N2 := New.one (o := exo a1 (cAt mg "InvalidText") (some x1)) N1.sub (p := a1) (by rw [upd_ne (Ne.symm n1)]; exact f1)
        have N3 := New.one (o := exd x2 [("place", v)]) N2.sub (p := x2) g2
        have N4 := New.one (o := exo a2 (cAt mg "InvalidText") (some x2)) N3.sub (p := a2) (by rw [upd_ne (Ne.symm n2)]; exact f2)
        have N := ((N1.trans N2).trans N3).trans N4
        have X1 := ((N2.trans N3).trans N4).ext x1 _ upd_same
        have A1 := (N3.trans N4).ext a1 _ upd_same
        have X2 := N4.ext x2 _ upd_same
        have A2 : _ = _ := upd_same (H := upd (upd (upd Ba x1 (exd x1 [("place", v)])) a1 (exo a1 (cAt mg "InvalidText") (some x1))) x2 (exd x2 [("place", v)])) (a := a2) (o := exo a2 (cAt mg "InvalidText") (some x2))
        have rN := rd.mono N.ext
        have r1 := R.exc (.inr ⟨x1, _, A1, X1⟩)
        have r2 := R.exc (.inr ⟨x2, _, A2, X2⟩)
        have rows : kindsOf mg (cAt mg "InvalidText") = rowOf 14 := kinds_row T (i := 14) (by rw [LX_len]; decide)
        refine s_seq (s_if (b := (!(PyData.eqv (Dt.lst (rowOf 14)).py (Dt.lst ((List.range 15).map fun q : Nat => .bl (decide ((q : Int) = 14)))).py) || !true)) N.sub (ec_or (ec_t (ev_op ((ev_call (ea_cons (ev_v (n := 8) rfl r1) ea_nil) ⟨_, rfl, .inr mem, rfl⟩).is (congrArg Dt.lst rows)) (ev_lcR1 (n := 15) (f := fun q : Nat => .bl (decide ((q : Int) = 14))) (ea_cons ev_i ea_nil) ⟨by decide, by decide⟩ (fun _ => rfl) (fun q B1 hq e1 => ev_op (ev_v (n := 6) rfl (.int _)) ev_i (rv_inl rv_eqI))) (rv_inr (rv_neD (x := .lst (rowOf 14)) (row_ok ⟨14, by decide⟩) (by decide +kernel))))) (fun _ => ec_not (ec_v (ev_isX (cv := .ref (cAt mg "PaintError")) (ev_v (n := 8) rfl r1) cc.e (fun u h => h) (kit_base cc cp))))) (fun h => absurd h (by decide +kernel)) (fun _ H9 u9 => ?_))
        walk_at "u_n"
        refine s_if (b := (!decide ((Dt.lst [d, d]).py.shown = (Dt.lst [d, d]).py.shown) || !true)) u9.sub (ec_or (ec_t (ev_op (ev_cb (ea_cons (ev_lst (ea_cons (ev_place (n := 8) rfl tc A1 X1 rN) (ea_cons (ev_place (n := 9) rfl tc A2 X2 rN) ea_nil)) (by simp)) ea_nil) (rl_reprD rfl ok)) (ev_cb (ea_cons (ev_lst (ea_cons (ev_v (n := 7) rfl rN) (ea_cons (ev_v (n := 7) rfl rN) ea_nil)) (by simp)) ea_nil) (rl_reprD rfl ok)) (rv_inl rv_neS))) (fun _ => ec_not (ec_v (ev_isX (cv := .type "ValueError") (ev_v (n := 9) rfl r2) cc.e (fun u h => h) (kit_value cc))))) (fun h => absurd h (by simp)) (fun _ H10 u10 => ?_)
        have eE := (N.heap.trans u9.heap).trans u10.heap
        exact ⟨_, _, _, rfl, eB.trans eE, kd.ex eE⟩
      · rintro Ba Ha σ' H' na ⟨w7, w8, w9, rfl, h2, h3⟩
        exact ⟨_, _, _, _, _, _, _, _, _, rfl, h3⟩
  · rintro σ' H' ⟨w2, w3, w4, w5, w6, w7, w8, w9, w10, rfl, dk⟩
    walk_at "u_n"
    refine s_seq (s_asg (d := .exc (cAt mg "PaintError")) (e0 _) (ev_exc ev_s) fun v1 B1 H1 n1 q1 => ?_)
    walk_at "u_n"
    have cp := cls_base T
    refine s_retE n1.sub (x := .bl (true && PyData.eqv (Dt.lst (kindsOf mg (cAt mg "PaintError"))).py (Dt.lst (List.replicate (15 : Int).toNat [Dt.bl false]).flatten).py)) (ev_and (ev_isX (cv := .type "ValueError") (ev_v rfl q1) cp.e (fun u h => h) (kit_value cp)) (fun _ => ev_op (ev_call (ea_cons (ev_v rfl q1) ea_nil) ⟨_, rfl, .inl rfl, rfl⟩) (ev_op (ev_lst (ea_cons ev_b ea_nil) (by simp)) ev_i (rv_rep ⟨by decide, by decide⟩ (by simp))) (rv_inr (rv_eqD (by show SeqAt.shaped (Dt.lst (kindsOf mg _)).py = true; rw [kinds_none T]; decide +kernel) (by decide +kernel))))) (d := .bl true) (by rw [kinds_none T]; exact congrArg Dt.bl (by decide +kernel)) (fun v Bz Hz nz rv => by cases rv; exact ret Hz)

end
theorem all_mk {l : PySem.W.OpenLaw} {w : World} {K : PySem.W.Frag} {h : Heap} {mg : Str → Option Value} {fL f18 f19 f20 f21 : Addr} (X : K.In h) (G : h.Ns mainGlobals mg) (hfa : mg "law" = some (.ref fL))
    {od18 an18 od19 an19 od20 an20 od21 an21 : Option Addr} {sl18 sl19 sl20 sl21 : Array (Option Value)} {oc18 kV18 dc18 pm18 cd18 ct18 oc19 kV19 dc19 pm19 cd19 ct19 oc20 kV20 dc20 pm20 cd20 ct20 oc21 kV21 dc21 pm21 cd21 ct21 : Value} 
    {c_xPaintError c_xInvalidFrame c_xInvalidProgram c_xInvalidSetting c_xInvalidCell c_xInvalidFacts c_xInvalidIndex c_xInvalidColour c_xInvalidStatement c_xInvalidWidths c_xInvalidValue c_xImpossible c_xOtherFrame c_xNothingToUndo c_xInvalidCommand : Addr}
    (a_18 : PySem.W.nsIn K mainGlobals "_law_deck" = some (some (.ref f18))) (l_18 : K.lookup f18 = some ⟨oc18, od18, .func (PySem.W.fnOf "_law_deck" "_law_deck" (defArgs s__law_deck) (defBody s__law_deck) (defScope s__law_deck) .none kV18 dc18 pm18 an18 cd18 ct18), sl18⟩) (c_18 : PySem.W.codeIn K cd18 "_law_deck" = true) (k_18 : PySem.W.keepIn K (.ref f18) = true)
    (a_19 : PySem.W.nsIn K mainGlobals "_law_take" = some (some (.ref f19))) (l_19 : K.lookup f19 = some ⟨oc19, od19, .func (PySem.W.fnOf "_law_take" "_law_take" (defArgs s__law_take) (defBody s__law_take) (defScope s__law_take) .none kV19 dc19 pm19 an19 cd19 ct19), sl19⟩) (c_19 : PySem.W.codeIn K cd19 "_law_take" = true) (k_19 : PySem.W.keepIn K (.ref f19) = true)
    (a_20 : PySem.W.nsIn K mainGlobals "_law_kinds" = some (some (.ref f20))) (l_20 : K.lookup f20 = some ⟨oc20, od20, .func (PySem.W.fnOf "_law_kinds" "_law_kinds" (defArgs s__law_kinds) (defBody s__law_kinds) (defScope s__law_kinds) .none kV20 dc20 pm20 an20 cd20 ct20), sl20⟩) (c_20 : PySem.W.codeIn K cd20 "_law_kinds" = true) (k_20 : PySem.W.keepIn K (.ref f20) = true)
    (a_21 : PySem.W.nsIn K mainGlobals "law" = some (some (.ref f21))) (l_21 : K.lookup f21 = some ⟨oc21, od21, .func (PySem.W.fnOf "law" "law" (defArgs s_law) (defBody s_law) (defScope s_law) .none kV21 dc21 pm21 an21 cd21 ct21), sl21⟩) (c_21 : PySem.W.codeIn K cd21 "law" = true) (k_21 : PySem.W.keepIn K (.ref f21) = true)
    (z_ValueError : PySem.W.nsIn K mainGlobals "ValueError" = some none)
    (z_abs : PySem.W.nsIn K mainGlobals "abs" = some none)
    (z_int : PySem.W.nsIn K mainGlobals "int" = some none)
    (z_isinstance : PySem.W.nsIn K mainGlobals "isinstance" = some none)
    (z_len : PySem.W.nsIn K mainGlobals "len" = some none)
    (z_range : PySem.W.nsIn K mainGlobals "range" = some none)
    (z_repr : PySem.W.nsIn K mainGlobals "repr" = some none)
    (xg_PaintError : PySem.W.nsIn K mainGlobals "PaintError" = some (some (.ref c_xPaintError)))
    (xg_InvalidFrame : PySem.W.nsIn K mainGlobals "InvalidFrame" = some (some (.ref c_xInvalidFrame)))
    (xg_InvalidProgram : PySem.W.nsIn K mainGlobals "InvalidProgram" = some (some (.ref c_xInvalidProgram)))
    (xg_InvalidSetting : PySem.W.nsIn K mainGlobals "InvalidSetting" = some (some (.ref c_xInvalidSetting)))
    (xg_InvalidCell : PySem.W.nsIn K mainGlobals "InvalidCell" = some (some (.ref c_xInvalidCell)))
    (xg_InvalidFacts : PySem.W.nsIn K mainGlobals "InvalidFacts" = some (some (.ref c_xInvalidFacts)))
    (xg_InvalidIndex : PySem.W.nsIn K mainGlobals "InvalidIndex" = some (some (.ref c_xInvalidIndex)))
    (xg_InvalidColour : PySem.W.nsIn K mainGlobals "InvalidColour" = some (some (.ref c_xInvalidColour)))
    (xg_InvalidStatement : PySem.W.nsIn K mainGlobals "InvalidStatement" = some (some (.ref c_xInvalidStatement)))
    (xg_InvalidWidths : PySem.W.nsIn K mainGlobals "InvalidWidths" = some (some (.ref c_xInvalidWidths)))
    (xg_InvalidValue : PySem.W.nsIn K mainGlobals "InvalidValue" = some (some (.ref c_xInvalidValue)))
    (xg_Impossible : PySem.W.nsIn K mainGlobals "Impossible" = some (some (.ref c_xImpossible)))
    (xg_OtherFrame : PySem.W.nsIn K mainGlobals "OtherFrame" = some (some (.ref c_xOtherFrame)))
    (xg_NothingToUndo : PySem.W.nsIn K mainGlobals "NothingToUndo" = some (some (.ref c_xNothingToUndo)))
    (xg_InvalidCommand : PySem.W.nsIn K mainGlobals "InvalidCommand" = some (some (.ref c_xInvalidCommand)))
    {c_I fI : Addr} {odI anI : Option Addr} {slI : Array (Option Value)} {ocI kVI dcI pmI cdI ctI : Value} {nmI qI : Str} {NI : Addr} {bsI : List Value} {snI : List Str} {subI : List Value} {abI : Bool} {colI : Option Bool} {ddI : Option Addr} {k0I k1I k2I k3I k5I : Option Value}
    (xg_I : PySem.W.nsIn K mainGlobals "InvalidText" = some (some (.ref c_I)))
    (yi : PySem.W.findIn K (.ref c_I) "__init__" = some (some (.ref fI)))
    (yl : K.lookup fI = some ⟨ocI, odI, .func (PySem.W.fnOf "__init__" "InvalidText.__init__" (defArgs s_init) (defBody s_init) (defScope s_init) .none kVI dcI pmI anI cdI ctI), slI⟩)
    (yc : PySem.W.codeIn K cdI "InvalidText.__init__" = true)
    (yk : PySem.W.keepIn K (.ref fI) = true)
    (yt : PySem.W.typeIn K (.ref fI) = some (.type "function"))
    (yL : K.lookup c_I = some (excClassObj nmI qI c_I NI bsI [.ref c_xPaintError, .type "ValueError", .type "Exception", .type "BaseException", .type "object"] true snI subI abI colI ddI k0I k1I k2I k3I k5I "ValueError.__new__"))
    (ysa : PySem.W.findIn K (.ref c_I) "__setattr__" = some (some (.builtin "object.__setattr__")))
    (yb : PySem.W.subIn K (.ref c_I) (.type "BaseException") = some true)
    (yT : PySem.W.typeIn K (.ref c_I) = some (.type "type"))
    (yK : PySem.W.keepIn K (.ref c_I) = true)
    (yn : PySem.W.findIn K (.ref c_I) "place" = some none)
    (yga : PySem.W.findIn K (.ref c_I) "__getattribute__" = some (some (.builtin "BaseException.__getattribute__")))
    (ygg : PySem.W.findIn K (.ref c_I) "__getattr__" = some none)
    (yhd : PySem.W.hasDictIn K c_I = true)
    (yha : PySem.W.findIn K (.ref c_I) "__class__" = some (some (.builtin "object.__class__")))
    (yhn : PySem.W.specialIn K (.builtin "object.__class__") "__get__" = some (some (.builtin "getset_descriptor.__get__")))
    (yht : PySem.W.takesIn K (.builtin "object.__class__") = some true)
    (yhm : PySem.W.mroIn K c_I (.type "object") = some true)
    (mro_InvalidText : (PySem.W.clsIn K c_I).map (·.mro) = some [.ref c_I, .ref c_xPaintError, .type "ValueError", .type "Exception", .type "BaseException", .type "object"])
    (hpe : excB K c_xPaintError [] = true)
    (hex : ([c_xInvalidFrame, c_xInvalidProgram, c_xInvalidSetting, c_xInvalidCell, c_xInvalidFacts, c_xInvalidIndex, c_xInvalidColour, c_xInvalidStatement, c_xInvalidWidths, c_xInvalidValue, c_xImpossible, c_xOtherFrame, c_xNothingToUndo, c_xInvalidCommand] : List Addr).all (fun C => excB K C [.ref c_xPaintError]) = true)
    (hnd : ([c_xPaintError, c_xInvalidFrame, c_xInvalidProgram, c_xInvalidSetting, c_xInvalidCell, c_xInvalidFacts, c_xInvalidIndex, c_xInvalidColour, c_xInvalidStatement, c_xInvalidWidths, c_xInvalidValue, c_xImpossible, c_xOtherFrame, c_xNothingToUndo, c_xInvalidCommand, c_I] : List Addr).Nodup)
    : ∃ fd : FuncData, (∀ (s : Shared) (v : Value), BindsTo s fd ⟨[v], []⟩ [("script", v)]) ∧ ∀ base : Heap, K.In base → base.Ns mainGlobals mg → FnG l.prog w K mg base CX0 4 fL fd ["script"] (spLaw K) := by
  have e := hfa.symm.trans (PySem.W.mg_of X G a_21)
  cases e
  have T : Txt K mg (fun i => match i with | 18 => f18 | 19 => f19 | 20 => f20 | 21 => fL | 1000 => fI | _ => 0) (fun i => match i with | 18 => PySem.W.fnOf "_law_deck" "_law_deck" (defArgs s__law_deck) (defBody s__law_deck) (defScope s__law_deck) .none kV18 dc18 pm18 an18 cd18 ct18 | 19 => PySem.W.fnOf "_law_take" "_law_take" (defArgs s__law_take) (defBody s__law_take) (defScope s__law_take) .none kV19 dc19 pm19 an19 cd19 ct19 | 20 => PySem.W.fnOf "_law_kinds" "_law_kinds" (defArgs s__law_kinds) (defBody s__law_kinds) (defScope s__law_kinds) .none kV20 dc20 pm20 an20 cd20 ct20 | 21 => PySem.W.fnOf "law" "law" (defArgs s_law) (defBody s_law) (defScope s_law) .none kV21 dc21 pm21 an21 cd21 ct21 | 1000 => PySem.W.fnOf "__init__" "InvalidText.__init__" (defArgs s_init) (defBody s_init) (defScope s_init) .none kVI dcI pmI anI cdI ctI | _ => PySem.W.fnOf "" "" (defArgs s_law) [] (defScope s_law) .none .none .none .none none .none .none) := {
    d__law_deck := ⟨fun_mk (st := s__law_deck) l_18 c_18 k_18, PySem.W.mg_of X G a_18⟩
    d__law_take := ⟨fun_mk (st := s__law_take) l_19 c_19 k_19, PySem.W.mg_of X G a_19⟩
    d__law_kinds := ⟨fun_mk (st := s__law_kinds) l_20 c_20 k_20, PySem.W.mg_of X G a_20⟩
    d_law := ⟨fun_mk (st := s_law) l_21 c_21 k_21, PySem.W.mg_of X G a_21⟩
    n_ValueError := PySem.W.mg_none_of X G z_ValueError
    n_abs := PySem.W.mg_none_of X G z_abs
    n_int := PySem.W.mg_none_of X G z_int
    n_isinstance := PySem.W.mg_none_of X G z_isinstance
    n_len := PySem.W.mg_none_of X G z_len
    n_range := PySem.W.mg_none_of X G z_range
    n_repr := PySem.W.mg_none_of X G z_repr
    e_PaintError := by rw [cAt_of (PySem.W.mg_of X G xg_PaintError)]; exact excB_T (PySem.W.mg_of X G xg_PaintError) hpe yhn yht
    e_InvalidFrame := by rw [cAt_of (PySem.W.mg_of X G xg_InvalidFrame)]; exact excB_T (PySem.W.mg_of X G xg_InvalidFrame) (List.all_eq_true.mp hex c_xInvalidFrame (by simp)) yhn yht
    e_InvalidProgram := by rw [cAt_of (PySem.W.mg_of X G xg_InvalidProgram)]; exact excB_T (PySem.W.mg_of X G xg_InvalidProgram) (List.all_eq_true.mp hex c_xInvalidProgram (by simp)) yhn yht
    e_InvalidSetting := by rw [cAt_of (PySem.W.mg_of X G xg_InvalidSetting)]; exact excB_T (PySem.W.mg_of X G xg_InvalidSetting) (List.all_eq_true.mp hex c_xInvalidSetting (by simp)) yhn yht
    e_InvalidCell := by rw [cAt_of (PySem.W.mg_of X G xg_InvalidCell)]; exact excB_T (PySem.W.mg_of X G xg_InvalidCell) (List.all_eq_true.mp hex c_xInvalidCell (by simp)) yhn yht
    e_InvalidFacts := by rw [cAt_of (PySem.W.mg_of X G xg_InvalidFacts)]; exact excB_T (PySem.W.mg_of X G xg_InvalidFacts) (List.all_eq_true.mp hex c_xInvalidFacts (by simp)) yhn yht
    e_InvalidIndex := by rw [cAt_of (PySem.W.mg_of X G xg_InvalidIndex)]; exact excB_T (PySem.W.mg_of X G xg_InvalidIndex) (List.all_eq_true.mp hex c_xInvalidIndex (by simp)) yhn yht
    e_InvalidColour := by rw [cAt_of (PySem.W.mg_of X G xg_InvalidColour)]; exact excB_T (PySem.W.mg_of X G xg_InvalidColour) (List.all_eq_true.mp hex c_xInvalidColour (by simp)) yhn yht
    e_InvalidStatement := by rw [cAt_of (PySem.W.mg_of X G xg_InvalidStatement)]; exact excB_T (PySem.W.mg_of X G xg_InvalidStatement) (List.all_eq_true.mp hex c_xInvalidStatement (by simp)) yhn yht
    e_InvalidWidths := by rw [cAt_of (PySem.W.mg_of X G xg_InvalidWidths)]; exact excB_T (PySem.W.mg_of X G xg_InvalidWidths) (List.all_eq_true.mp hex c_xInvalidWidths (by simp)) yhn yht
    e_InvalidValue := by rw [cAt_of (PySem.W.mg_of X G xg_InvalidValue)]; exact excB_T (PySem.W.mg_of X G xg_InvalidValue) (List.all_eq_true.mp hex c_xInvalidValue (by simp)) yhn yht
    e_Impossible := by rw [cAt_of (PySem.W.mg_of X G xg_Impossible)]; exact excB_T (PySem.W.mg_of X G xg_Impossible) (List.all_eq_true.mp hex c_xImpossible (by simp)) yhn yht
    e_OtherFrame := by rw [cAt_of (PySem.W.mg_of X G xg_OtherFrame)]; exact excB_T (PySem.W.mg_of X G xg_OtherFrame) (List.all_eq_true.mp hex c_xOtherFrame (by simp)) yhn yht
    e_NothingToUndo := by rw [cAt_of (PySem.W.mg_of X G xg_NothingToUndo)]; exact excB_T (PySem.W.mg_of X G xg_NothingToUndo) (List.all_eq_true.mp hex c_xNothingToUndo (by simp)) yhn yht
    e_InvalidCommand := by rw [cAt_of (PySem.W.mg_of X G xg_InvalidCommand)]; exact excB_T (PySem.W.mg_of X G xg_InvalidCommand) (List.all_eq_true.mp hex c_xInvalidCommand (by simp)) yhn yht
    d_init := fun_mk (st := s_init) yl yc yk
    g_InvalidText := by rw [cAt_of (PySem.W.mg_of X G xg_I)]; exact PySem.W.mg_of X G xg_I
    t_InvalidText := by rw [cAt_of (PySem.W.mg_of X G xg_I)]; exact ⟨⟨⟨nmI, qI, NI, bsI, _, snI, subI, abI, colI, ddI, k0I, k1I, k2I, k3I, k5I, yL, rfl⟩, ysa, yb, yT, yK⟩, yi, yt, yn, ⟨yga, ygg, yb, yhd⟩⟩
    c_InvalidText := by rw [cAt_of (PySem.W.mg_of X G xg_I)]; exact ⟨yga, ygg, yb, yhd, yha, yhn, yht, yhm⟩
    y_InvalidText := by rw [cAt_of (PySem.W.mg_of X G xg_I)]; exact yT
    m_PaintError := by rw [cAt_of (PySem.W.mg_of X G xg_PaintError)]; exact excB_m hpe
    m_InvalidFrame := by rw [cAt_of (PySem.W.mg_of X G xg_InvalidFrame), cAt_of (PySem.W.mg_of X G xg_PaintError)]; exact excB_m (List.all_eq_true.mp hex c_xInvalidFrame (by simp))
    m_InvalidProgram := by rw [cAt_of (PySem.W.mg_of X G xg_InvalidProgram), cAt_of (PySem.W.mg_of X G xg_PaintError)]; exact excB_m (List.all_eq_true.mp hex c_xInvalidProgram (by simp))
    m_InvalidSetting := by rw [cAt_of (PySem.W.mg_of X G xg_InvalidSetting), cAt_of (PySem.W.mg_of X G xg_PaintError)]; exact excB_m (List.all_eq_true.mp hex c_xInvalidSetting (by simp))
    m_InvalidCell := by rw [cAt_of (PySem.W.mg_of X G xg_InvalidCell), cAt_of (PySem.W.mg_of X G xg_PaintError)]; exact excB_m (List.all_eq_true.mp hex c_xInvalidCell (by simp))
    m_InvalidFacts := by rw [cAt_of (PySem.W.mg_of X G xg_InvalidFacts), cAt_of (PySem.W.mg_of X G xg_PaintError)]; exact excB_m (List.all_eq_true.mp hex c_xInvalidFacts (by simp))
    m_InvalidIndex := by rw [cAt_of (PySem.W.mg_of X G xg_InvalidIndex), cAt_of (PySem.W.mg_of X G xg_PaintError)]; exact excB_m (List.all_eq_true.mp hex c_xInvalidIndex (by simp))
    m_InvalidColour := by rw [cAt_of (PySem.W.mg_of X G xg_InvalidColour), cAt_of (PySem.W.mg_of X G xg_PaintError)]; exact excB_m (List.all_eq_true.mp hex c_xInvalidColour (by simp))
    m_InvalidStatement := by rw [cAt_of (PySem.W.mg_of X G xg_InvalidStatement), cAt_of (PySem.W.mg_of X G xg_PaintError)]; exact excB_m (List.all_eq_true.mp hex c_xInvalidStatement (by simp))
    m_InvalidWidths := by rw [cAt_of (PySem.W.mg_of X G xg_InvalidWidths), cAt_of (PySem.W.mg_of X G xg_PaintError)]; exact excB_m (List.all_eq_true.mp hex c_xInvalidWidths (by simp))
    m_InvalidValue := by rw [cAt_of (PySem.W.mg_of X G xg_InvalidValue), cAt_of (PySem.W.mg_of X G xg_PaintError)]; exact excB_m (List.all_eq_true.mp hex c_xInvalidValue (by simp))
    m_Impossible := by rw [cAt_of (PySem.W.mg_of X G xg_Impossible), cAt_of (PySem.W.mg_of X G xg_PaintError)]; exact excB_m (List.all_eq_true.mp hex c_xImpossible (by simp))
    m_OtherFrame := by rw [cAt_of (PySem.W.mg_of X G xg_OtherFrame), cAt_of (PySem.W.mg_of X G xg_PaintError)]; exact excB_m (List.all_eq_true.mp hex c_xOtherFrame (by simp))
    m_NothingToUndo := by rw [cAt_of (PySem.W.mg_of X G xg_NothingToUndo), cAt_of (PySem.W.mg_of X G xg_PaintError)]; exact excB_m (List.all_eq_true.mp hex c_xNothingToUndo (by simp))
    m_InvalidCommand := by rw [cAt_of (PySem.W.mg_of X G xg_InvalidCommand), cAt_of (PySem.W.mg_of X G xg_PaintError)]; exact excB_m (List.all_eq_true.mp hex c_xInvalidCommand (by simp))
    m_InvalidText := by rw [cAt_of (PySem.W.mg_of X G xg_I), cAt_of (PySem.W.mg_of X G xg_PaintError)]; exact mro_InvalidText
    nd := by rw [cAt_of (PySem.W.mg_of X G xg_PaintError), cAt_of (PySem.W.mg_of X G xg_InvalidFrame), cAt_of (PySem.W.mg_of X G xg_InvalidProgram), cAt_of (PySem.W.mg_of X G xg_InvalidSetting), cAt_of (PySem.W.mg_of X G xg_InvalidCell), cAt_of (PySem.W.mg_of X G xg_InvalidFacts), cAt_of (PySem.W.mg_of X G xg_InvalidIndex), cAt_of (PySem.W.mg_of X G xg_InvalidColour), cAt_of (PySem.W.mg_of X G xg_InvalidStatement), cAt_of (PySem.W.mg_of X G xg_InvalidWidths), cAt_of (PySem.W.mg_of X G xg_InvalidValue), cAt_of (PySem.W.mg_of X G xg_Impossible), cAt_of (PySem.W.mg_of X G xg_OtherFrame), cAt_of (PySem.W.mg_of X G xg_NothingToUndo), cAt_of (PySem.W.mg_of X G xg_InvalidCommand), cAt_of (PySem.W.mg_of X G xg_I)]; exact hnd
  }
  exact ⟨PySem.W.fnOf "law" "law" (defArgs s_law) (defBody s_law) (defScope s_law) .none kV21 dc21 pm21 an21 cd21 ct21, fun s v => .of_eq rfl, fun base _ _ => ok_law T⟩
theorem walk {l : PySem.W.OpenLaw} {q : Program} {loose : List Str} {XP : (Str → Option Value) → Heap → Prop} {YP : World → Heap → Prop} {d : DefRec} {K : Params → PySem.W.Frag} (hn : l.most = some 63) (hdf : d.params.defaults = [])
    (hY : ∀ (w : World) (h : Heap), YP w h → (K w.params).In h)
    (F : ∀ (w : World) (mg : Str → Option Value) (fa : Addr) (h : Heap), (K w.params).In h → h.Ns mainGlobals mg → mg d.name = some (.ref fa) →
      ∃ fd : FuncData, (∀ (s : Shared) (u : Value), BindsTo s fd ⟨[u], []⟩ [("script", u)]) ∧ ∀ base : Heap, (K w.params).In base → base.Ns mainGlobals mg → FnG l.prog w (K w.params) mg base CX0 4 fa fd ["script"] (spLaw (K w.params))) :
    PySem.W.WalkO q loose XP YP l.row.toRowW d [] (fun f vs => PySem.call f vs) :=
  walkG (n := 63) (k := 4) (x := "script") (CX := fun _ => CX0) (sp := fun w => spLaw (K w.params)) hn (by decide) hdf ⟨rfl, by decide, by decide⟩ hY F (fun _ _ a ns hl hS => ⟨a, ns, rfl, hS, hl, fun _ => rfl⟩) fun _ _ _ _ _ z => z
end Law
open PySem PySem.W PyProof.Rows in
set_option maxRecDepth 100000 in
set_option maxHeartbeats 0 in
theorem PySem.Challenge.cw_unknowncorners_k05_errors_made_holds : PySem.Challenge.rw_unknowncorners_k05_errors_made.Holds := by
  w_on; o_law; k_head; (case hw => w_witness2)
  k_fill
  refine Law.walk (l := PySem.Challenge.rw_unknowncorners_k05_errors_made) rfl rfl (fun w h Y => PySem.W.kIn_of Y) ?F
  case F =>
    intro w mg fa h KX G hmg
    refine' Law.all_mk KX G hmg ?a_18 ?l_18 ?c_18 ?k_18 ?a_19 ?l_19 ?c_19 ?k_19 ?a_20 ?l_20 ?c_20 ?k_20 ?a_21 ?l_21 ?c_21 ?k_21 ?z_ValueError ?z_abs ?z_int ?z_isinstance ?z_len ?z_range ?z_repr ?xg_PaintError ?xg_InvalidFrame ?xg_InvalidProgram ?xg_InvalidSetting ?xg_InvalidCell ?xg_InvalidFacts ?xg_InvalidIndex ?xg_InvalidColour ?xg_InvalidStatement ?xg_InvalidWidths ?xg_InvalidValue ?xg_Impossible ?xg_OtherFrame ?xg_NothingToUndo ?xg_InvalidCommand ?xg_I ?yi ?yl ?yc ?yk ?yt ?yL ?ysa ?yb ?yT ?yK ?yn ?yga ?ygg ?yhd ?yha ?yhn ?yht ?yhm ?mro_InvalidText ?hpe ?hex ?hnd
    (case xg_PaintError => k_is)
    (case xg_InvalidFrame => k_is)
    (case xg_InvalidProgram => k_is)
    (case xg_InvalidSetting => k_is)
    (case xg_InvalidCell => k_is)
    (case xg_InvalidFacts => k_is)
    (case xg_InvalidIndex => k_is)
    (case xg_InvalidColour => k_is)
    (case xg_InvalidStatement => k_is)
    (case xg_InvalidWidths => k_is)
    (case xg_InvalidValue => k_is)
    (case xg_Impossible => k_is)
    (case xg_OtherFrame => k_is)
    (case xg_NothingToUndo => k_is)
    (case xg_InvalidCommand => k_is)
    (case xg_I => k_is)
    (case a_18 => k_is)
    (case l_18 => k_is)
    (case c_18 => k_is)
    (case k_18 => k_is)
    (case a_19 => k_is)
    (case l_19 => k_is)
    (case c_19 => k_is)
    (case k_19 => k_is)
    (case a_20 => k_is)
    (case l_20 => k_is)
    (case c_20 => k_is)
    (case k_20 => k_is)
    (case a_21 => k_is)
    (case l_21 => k_is)
    (case c_21 => k_is)
    (case k_21 => k_is)
    (case z_ValueError => k_is)
    (case z_abs => k_is)
    (case z_int => k_is)
    (case z_isinstance => k_is)
    (case z_len => k_is)
    (case z_range => k_is)
    (case z_repr => k_is)
    (case yi => k_is)
    (case yl => k_is)
    (case yc => k_is)
    (case yk => k_is)
    (case yt => k_is)
    (case yL => k_is)
    (case ysa => k_is)
    (case yb => k_is)
    (case yT => k_is)
    (case yK => k_is)
    (case yn => k_is)
    (case yga => k_is)
    (case ygg => k_is)
    (case yhd => k_is)
    (case yha => k_is)
    (case yhn => k_is)
    (case yht => k_is)
    (case yhm => k_is)
    (case mro_InvalidText => kernel_rfl)
    (case hpe => kernel_rfl)
    (case hex => kernel_rfl)
    (case hnd => decide)

