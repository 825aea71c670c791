import PyProof.Rows.All
import Wide.All
import OpenK.AllK
import Wide.FinOn
import HandS.ForMost
import HandS.More
import HandS.IsInst
import HandS.Evl
import HandS.TupAny
import PyProof.ReprRoads
import HandS.ExcValue
import HandS.Strs
import HandS.SetFor
import HandS.SortInts
import HandS.Dict
import HandS.Zip
import HandS.Comp
import HandS.Star
import KE.LtData
import HandS.Conv
import HandS.Exc
import HandS.ExcOwn
import HandS.ExcIs
import HandS.TryOnly
import HandS.Deep
import PySem.Challenge.RW_unknowncorners_k08_settings_and_facts_re
set_option Elab.async false
set_option linter.all false
set_option maxRecDepth 100000
set_option maxHeartbeats 4000000
namespace U
open PySem L2 Evl

/-! ### data -/
inductive Dt where
  | non | bl (b : Bool) | int (i : Int) | str (x : Str) | lst (xs : List Dt) | tup (xs : List Dt) | exc (C : Addr)
/-- an error that is held as a value -/
def HasE (H : Hp) (a C : Addr) : Prop := H a = some (ExO (.ref C) a)
mutual
inductive R (H : Hp) : V → Dt → Prop
  | non : R H .non .non
  | bl (b : Bool) : R H (.bl b) (.bl b)
  | int (i : Int) : R H (.int i) (.int i)
  | str (x : Str) : R H (.str x) (.str x)
  | lst {a : Addr} {xs : List V} {ds : List Dt} : H a = some (.lst xs) → RA H xs ds → R H (.ref a) (.lst ds)
  | tup {a : Addr} {xs : List V} {ds : List Dt} : H a = some (.tup xs) → RA H xs ds → R H (.ref a) (.tup ds)
  | exc {a C : Addr} : HasE H a C → R H (.ref a) (.exc C)
inductive RA (H : Hp) : List V → List Dt → Prop
  | nil : RA H [] []
  | cons {v : V} {vs : List V} {d : Dt} {ds : List Dt} : R H v d → RA H vs ds → RA H (v :: vs) (d :: ds)
end
section
variable {H H' : Hp}
mutual
theorem R.mono (e : Ex H H') : ∀ {v : V} {d : Dt}, R H v d → R H' v d
  | _, _, .non => .non
  | _, _, .bl b => .bl b
  | _, _, .int i => .int i
  | _, _, .str x => .str x
  | _, _, .lst h k => .lst (e _ _ h) (RA.mono e k)
  | _, _, .tup h k => .tup (e _ _ h) (RA.mono e k)
  | _, _, .exc h => .exc (e _ _ h)
theorem RA.mono (e : Ex H H') : ∀ {v : List V} {d : List Dt}, RA H v d → RA H' v d
  | _, _, .nil => .nil
  | _, _, .cons a b => .cons (R.mono e a) (RA.mono e b)
end
theorem R.lst_inv {v : V} {ds : List Dt} (h : R H v (.lst ds)) : ∃ a xs, v = .ref a ∧ H a = some (.lst xs) ∧ RA H xs ds := by
  cases h with | lst a b => exact ⟨_, _, rfl, a, b⟩
theorem R.tup_inv {v : V} {ds : List Dt} (h : R H v (.tup ds)) : ∃ a xs, v = .ref a ∧ H a = some (.tup xs) ∧ RA H xs ds := by
  cases h with | tup a b => exact ⟨_, _, rfl, a, b⟩
theorem R.int_inv {v : V} {i : Int} (h : R H v (.int i)) : v = .int i := by cases h; rfl
theorem R.bl_inv {v : V} {i : Bool} (h : R H v (.bl i)) : v = .bl i := by cases h; rfl
theorem R.str_inv {v : V} {i : Str} (h : R H v (.str i)) : v = .str i := by cases h; rfl
theorem R.non_inv {v : V} (h : R H v .non) : v = .non := by cases h; rfl
theorem RA.len : ∀ {vs : List V} {ds : List Dt}, RA H vs ds → vs.length = ds.length
  | _, _, .nil => rfl
  | _, _, .cons _ k => by rw [List.length_cons, List.length_cons, RA.len k]
theorem RA.get : ∀ {vs : List V} {ds : List Dt} {i : Nat} {d : Dt}, RA H vs ds → ds[i]? = some d → ∃ v, vs[i]? = some v ∧ R H v d
  | _, _, _, _, .nil, e => by simp at e
  | _, _, 0, d, .cons r _, e => by simp at e; subst e; exact ⟨_, rfl, r⟩
  | _, _, i + 1, d, .cons _ t, e => by
    obtain ⟨u, h1, h2⟩ := RA.get (i := i) (d := d) t (by simpa using e)
    exact ⟨u, by simpa using h1, h2⟩
theorem RA.getV : ∀ {vs : List V} {ds : List Dt} {i : Nat} {v : V}, RA H vs ds → vs[i]? = some v → ∃ d, ds[i]? = some d ∧ R H v d
  | _, _, _, _, .nil, e => by simp at e
  | _, _, 0, d, .cons r _, e => by simp at e; subst e; exact ⟨_, rfl, r⟩
  | _, _, i + 1, d, .cons _ t, e => by
    obtain ⟨u, h1, h2⟩ := RA.getV (i := i) (v := d) t (by simpa using e)
    exact ⟨u, by simpa using h1, h2⟩
theorem RA.append : ∀ {vs ws : List V} {ds es : List Dt}, RA H vs ds → RA H ws es → RA H (vs ++ ws) (ds ++ es)
  | _, _, _, _, .nil, k => k
  | _, _, _, _, .cons a b, k => .cons a (RA.append b k)
theorem RA.one {v : V} {d : Dt} (h : R H v d) : RA H [v] [d] := .cons h .nil
theorem RA.ints : ∀ (ns : List Int), RA H (ns.map V.int) (ns.map Dt.int)
  | [] => .nil
  | n :: ns => .cons (.int n) (RA.ints ns)
theorem RA.ints_inv : ∀ {ns : List Int} {vs : List V}, RA H vs (ns.map Dt.int) → vs = ns.map V.int
  | [], _, .nil => rfl
  | n :: ns, _, .cons a b => by rw [R.int_inv a, RA.ints_inv b]; rfl
theorem RA.bls_inv {α : Type} {p : α → Bool} : ∀ {ns : List α} {vs : List V}, RA H vs (ns.map fun a => Dt.bl (p a)) → vs = (ns.map p).map V.bl
  | [], _, .nil => rfl
  | n :: ns, _, .cons a b => by rw [R.bl_inv a, RA.bls_inv b]; rfl
theorem RA.intsf_inv {α : Type} {p : α → Int} : ∀ {ns : List α} {vs : List V}, RA H vs (ns.map fun a => Dt.int (p a)) → vs = (ns.map p).map V.int
  | [], _, .nil => rfl
  | n :: ns, _, .cons a b => by rw [R.int_inv a, RA.intsf_inv b]; rfl
end

/-! ### data that can be shown -/
mutual
def Dt.py : Dt → PyData
  | .non => .none
  | .bl b => .bool b
  | .int i => .int i
  | .str x => .str x
  | .lst xs => .list (pyAll xs)
  | .tup xs => .tuple (pyAll xs)
  | .exc _ => .dict []
def pyAll : List Dt → List PyData
  | [] => []
  | x :: xs => Dt.py x :: pyAll xs
end
mutual
/-- no errors in it -/
def Dt.cln : Dt → Bool
  | .exc _ => false
  | .lst xs | .tup xs => clnAll xs
  | _ => true
def clnAll : List Dt → Bool
  | [] => true
  | x :: xs => Dt.cln x && clnAll xs
end
section
variable {K : PySem.W.Frag} {H : Hp}
mutual
theorem R.dp : ∀ {v : V} {d : Dt}, R H v d → d.cln = true → Dp K H v d.py
  | _, _, .non, _ => by rw [Dt.py]; exact .non
  | _, _, .bl b, _ => by rw [Dt.py]; exact .bl b
  | _, _, .int b, _ => by rw [Dt.py]; exact .int b
  | _, _, .str b, _ => by rw [Dt.py]; exact .str b
  | _, _, .lst h k, c => by rw [Dt.py]; exact .lst (SqL.of h) (RA.dp k (by rw [Dt.cln] at c; exact c))
  | _, _, .tup h k, c => by rw [Dt.py]; exact .tup (SqT.of h) (RA.dp k (by rw [Dt.cln] at c; exact c))
  | _, _, .exc _, c => by simp [Dt.cln] at c
theorem RA.dp : ∀ {v : List V} {d : List Dt}, RA H v d → clnAll d = true → DpAll K H v (pyAll d)
  | _, _, .nil, _ => by rw [pyAll]; exact .nil
  | _, _, .cons a b, c => by
    rw [clnAll, Bool.and_eq_true] at c
    rw [pyAll]; exact .cons (R.dp a c.1) (RA.dp b c.2)
end
end

mutual
def Dt.fit : Dt → Bool
  | .non | .bl _ => true
  | .str x => x.cps.toList.all fun c => decide (c < 16 ^ 8)
  | .int i => decide (i.natAbs < 10 ^ 60)
  | .lst xs | .tup xs => fitAll xs
  | .exc _ => false
def fitAll : List Dt → Bool
  | [] => true
  | x :: xs => Dt.fit x && fitAll xs
end
mutual
def Dt.wt : Dt → Nat
  | .non | .bl _ | .int _ | .exc _ => 1
  | .str x => x.length + 1
  | .lst xs | .tup xs => wtAll xs + 1
def wtAll : List Dt → Nat
  | [] => 0
  | x :: xs => Dt.wt x + wtAll xs
end
mutual
def Dt.dep : Dt → Nat
  | .non | .bl _ | .int _ | .str _ => 0
  | .exc _ => (PyData.dict []).depth
  | .lst xs | .tup xs => depAll xs + 1
def depAll : List Dt → Nat
  | [] => 0
  | x :: xs => max (Dt.dep x) (depAll xs)
end
theorem strip_int {i : Int} (h : i.natAbs < 10 ^ 60) : (PyData.shown (.int i)).length ≤ 61 := by
  have h2 := PySem.int_text_length_le10 (a := i) (k := 60) (by decide) h
  rw [PyData.shown]
  have e : ((toString i : Str)).length = (toString i : String).length := by
    exact PySem.ofString_length _
  omega
theorem log_60 {i : Int} (h : i.natAbs < 10 ^ 60) : i.natAbs.log2 < 1920 := by
  by_cases h0 : i.natAbs = 0
  · rw [h0]; decide
  · exact (Nat.log2_lt h0).mpr (Nat.lt_trans h (by decide))
mutual
theorem shown_sz : ∀ d : Dt, d.fit = true → d.py.shown.length ≤ 74 * d.wt - 2
  | .non, _ => by decide +kernel
  | .bl b, _ => by cases b <;> decide +kernel
  | .int i, h => by
    have := strip_int (i := i) (by simpa [Dt.fit] using h)
    rw [Dt.py, Dt.wt]; omega
  | .str x, h => by
    have h1 : ∀ c ∈ x.cps.toList, c < 16 ^ 8 := fun c hc => of_decide_eq_true (List.all_eq_true.mp (by rw [Dt.fit] at h; exact h) c hc)
    have h2 := StrLaws.reprText_len x h1
    rw [Dt.py, Dt.wt, PyData.shown]; omega
  | .lst xs, h => by
    have h1 := shownAll_sz xs (by simpa [Dt.fit] using h)
    have h2 := listText_len_le (PyData.shownAll (pyAll xs))
    rw [Dt.py, Dt.wt, PyData.shown]
    omega
  | .tup xs, h => by
    have h1 := shownAll_sz xs (by simpa [Dt.fit] using h)
    have h2 := tupleText_len_le (PyData.shownAll (pyAll xs))
    rw [Dt.py, Dt.wt, PyData.shown]
    omega
  | .exc _, h => by simp [Dt.fit] at h
theorem shownAll_sz : ∀ xs : List Dt, fitAll xs = true → ((PyData.shownAll (pyAll xs)).map (·.length)).sum + 2 * (PyData.shownAll (pyAll xs)).length ≤ 74 * wtAll xs
  | [], _ => by simp [pyAll, PyData.shownAll]
  | x :: xs, h => by
    have h' : x.fit = true ∧ fitAll xs = true := by simpa [fitAll] using h
    have h1 := shown_sz x h'.1
    have h2 := shownAll_sz xs h'.2
    rw [pyAll, PyData.shownAll, wtAll, List.map_cons, List.sum_cons, List.length_cons]
    have h3 : 1 ≤ x.wt := by cases x <;> simp [Dt.wt]
    omega
end
mutual
theorem showable_fit : ∀ d : Dt, d.fit = true → d.py.showable = true
  | .non, _ => by rw [Dt.py, PyData.showable]
  | .bl b, _ => by rw [Dt.py, PyData.showable]
  | .int i, h => by
    rw [Dt.py, PyData.showable]
    exact decide_eq_true (log_60 (of_decide_eq_true (by rw [Dt.fit] at h; exact h)))
  | .str x, h => by rw [Dt.py, PyData.showable]
  | .lst xs, h => by rw [Dt.py, PyData.showable]; exact showableAll_fit xs (by rw [Dt.fit] at h; exact h)
  | .tup xs, h => by rw [Dt.py, PyData.showable]; exact showableAll_fit xs (by rw [Dt.fit] at h; exact h)
  | .exc _, h => by simp [Dt.fit] at h
theorem showableAll_fit : ∀ xs : List Dt, fitAll xs = true → PyData.showableAll (pyAll xs) = true
  | [], _ => by rw [pyAll, PyData.showableAll]
  | x :: xs, h => by
    have h' : x.fit = true ∧ fitAll xs = true := by simpa [fitAll] using h
    rw [pyAll, PyData.showableAll, showable_fit x h'.1, showableAll_fit xs h'.2]; rfl
end
mutual
theorem noDict_py : ∀ d : Dt, d.cln = true → d.py.hasDict = false
  | .non, _ => by rw [Dt.py, PyData.hasDict]
  | .bl b, _ => by rw [Dt.py, PyData.hasDict]
  | .int i, _ => by rw [Dt.py, PyData.hasDict]
  | .str x, _ => by rw [Dt.py, PyData.hasDict]
  | .lst xs, c => by rw [Dt.py, PyData.hasDict]; exact noDict_all xs (by rw [Dt.cln] at c; exact c)
  | .tup xs, c => by rw [Dt.py, PyData.hasDict]; exact noDict_all xs (by rw [Dt.cln] at c; exact c)
  | .exc _, c => by simp [Dt.cln] at c
theorem noDict_all : ∀ xs : List Dt, clnAll xs = true → PyData.hasDictAll (pyAll xs) = false
  | [], _ => by rw [pyAll, PyData.hasDictAll]
  | x :: xs, c => by
    rw [clnAll, Bool.and_eq_true] at c
    rw [pyAll, PyData.hasDictAll, noDict_py x c.1, noDict_all xs c.2]; rfl
end
mutual
theorem fit_cln : ∀ d : Dt, d.fit = true → d.cln = true
  | .non, _ => by rw [Dt.cln] <;> simp
  | .bl _, _ => by rw [Dt.cln] <;> simp
  | .int _, _ => by rw [Dt.cln] <;> simp
  | .str _, _ => by rw [Dt.cln] <;> simp
  | .lst xs, h => by rw [Dt.cln]; exact fitAll_cln xs (by rw [Dt.fit] at h; exact h)
  | .tup xs, h => by rw [Dt.cln]; exact fitAll_cln xs (by rw [Dt.fit] at h; exact h)
  | .exc _, h => by simp [Dt.fit] at h
theorem fitAll_cln : ∀ xs : List Dt, fitAll xs = true → clnAll xs = true
  | [], _ => by rw [clnAll]
  | x :: xs, h => by
    rw [fitAll, Bool.and_eq_true] at h
    rw [clnAll, fit_cln x h.1, fitAll_cln xs h.2]; rfl
end
mutual
theorem lay_cln : ∀ d : Dt, d.py.canLay0 = true → d.cln = true
  | .non, _ => by rw [Dt.cln] <;> simp
  | .bl _, _ => by rw [Dt.cln] <;> simp
  | .int _, _ => by rw [Dt.cln] <;> simp
  | .str _, _ => by rw [Dt.cln] <;> simp
  | .lst xs, h => by rw [Dt.cln]; exact layAll_cln xs (by rw [Dt.py, PyData.canLay0] at h; exact h)
  | .tup xs, h => by rw [Dt.cln]; exact layAll_cln xs (by rw [Dt.py, PyData.canLay0] at h; exact h)
  | .exc _, h => by rw [Dt.py, PyData.canLay0] at h; cases h
theorem layAll_cln : ∀ xs : List Dt, PyData.canLayAll0 (pyAll xs) = true → clnAll xs = true
  | [], _ => by rw [clnAll]
  | x :: xs, h => by
    rw [pyAll, PyData.canLayAll0, Bool.and_eq_true] at h
    rw [clnAll, lay_cln x h.1, layAll_cln xs h.2]; rfl
end
theorem shaped_cln {d : Dt} (h : SeqAt.shaped d.py = true) : d.cln = true := by
  unfold SeqAt.shaped at h
  rw [Bool.and_eq_true] at h
  exact lay_cln d h.1
mutual
theorem dep_py : ∀ d : Dt, d.py.depth = d.dep
  | .non => by simp only [Dt.py, PyData.depth, Dt.dep]
  | .bl b => by simp only [Dt.py, PyData.depth, Dt.dep]
  | .int i => by simp only [Dt.py, PyData.depth, Dt.dep]
  | .str x => by simp only [Dt.py, PyData.depth, Dt.dep]
  | .exc _ => by rw [Dt.py, Dt.dep]
  | .lst xs => by simp only [Dt.py, PyData.depth, Dt.dep, dep_all xs]
  | .tup xs => by simp only [Dt.py, PyData.depth, Dt.dep, dep_all xs]
theorem dep_all : ∀ xs : List Dt, PyData.depthAll (pyAll xs) = depAll xs
  | [] => by simp only [pyAll, PyData.depthAll, depAll]
  | x :: xs => by simp only [pyAll, PyData.depthAll, depAll, dep_py x, dep_all xs]
end
/-- what can be shown -/
structure Fit (d : Dt) : Prop where
  fit : d.fit = true
  wt : d.wt ≤ 200000
  dep : d.dep ≤ 60
def isSeq : Dt → Bool
  | .lst _ | .tup _ | .non => true
  | _ => false
/-- repr(x), x a list or a tuple or None -/
def rRepr (H : Hp) (xs : List V) (Q : VK) : Prop := ∃ x d, xs = [x] ∧ R H x d ∧ isSeq d = true ∧ Fit d ∧ Q (.str d.py.shown) H
theorem call_repr {X : Cx} (hg : X.A.guards = some []) (hu : X.A.units + 64 < cLine) : CallR X (.builtin "repr") (fun xs H Q => rRepr H xs Q) := by
  intro pins s σ H xs us Q I r h
  obtain ⟨x, d, rfl, rx, hq, f, q⟩ := h
  obtain ⟨u, rfl, rv⟩ := vals1 r
  obtain ⟨as, rd⟩ := Dp.reads I d.py x u (R.dp rx (fit_cln d f.fit)) rv
  by_cases hnn : d = .non
  · subst hnn
    have hx := rx.non_inv
    subst hx
    have hu0 : u = Value.none := rv
    subst hu0
    have es : (Dt.non).py.shown = ("None" : Str) := by rw [Dt.py, PyData.shown]
    rw [es] at q
    exact PySem.P.repr_of_none ⟨.str "None", H, I.tok _, ⟨_, rfl⟩, q⟩
  have hd : ∃ a, u = .ref a := by
    cases rx with
    | lst _ _ => exact ⟨_, rv⟩
    | tup _ _ => exact ⟨_, rv⟩
    | non => exact absurd rfl hnn
    | exc _ => exact ⟨_, rv⟩
    | bl _ => cases hq
    | int _ => cases hq
    | str _ => cases hq
  obtain ⟨a, rfl⟩ := hd
  have hs := shown_sz d f.fit
  have hw := f.wt
  have hdep := f.dep
  refine repr_of_reads' rd (showable_fit d f.fit) (PyData.noDict_hsm (noDict_py d (fit_cln d f.fit))) hg (by rw [dep_py]; omega) (fun _ _ e => e) (fun h' t tk hk => ?_) (by rw [sizeLine_eq]; omega)
  exact ⟨.str _, H, I.kept hk, ⟨_, rfl⟩, q⟩
end U

namespace U
open PySem PySem.Spec PyProof.Rows L2

section
variable {P : Program} {w : World} {K : PySem.W.Frag} {mg : Str → Option Value} {base : Heap} {CX : CXT}
/-- a def keeps its promise wherever no repr runs around it -/
structure FnG (P : Program) (w : World) (K : PySem.W.Frag) (mg : Str → Option Value) (base : Heap) (CX : CXT) (k : Nat) (f : Addr) (fd : FuncData) (ps : List Str) (sp : Sp) : Prop where
  long : ∀ as H Q E, sp as H Q E → as.length = ps.length
  goes : ∀ (Γ : Around), Γ.guards = some [] → Room k Γ → ∀ (below : List Env) (st : Shared) (H : Hp), Env0 P w K mg base Γ below st H →
    ∀ (given : Args) (us : List Value) (as : List V), BindsTo st fd given (ps.zip us) → Vals as us → ∀ (Q : VK) (E : XK), sp as H Q E →
      codeAny (model P w) Γ (.call (.ref f) given) (CR CX below P w H st Q E) st
theorem FnG.up {j k : Nat} {f : Addr} {fd : FuncData} {ps : List Str} {sp : Sp} (F : FnG P w K mg base CX j f fd ps sp) (h : j ≤ k) : FnG P w K mg base CX k f fd ps sp :=
  ⟨F.long, fun Γ g r => F.goes Γ g (r.mono h)⟩
theorem deep_guards {Γ : Around} {env : Env} (h : Γ.guards = some []) : (Γ.deeper env).guards = some [] := h

/-- a def by its body -/
theorem fnG_of {k : Nat} {f : Addr} {name qual : Str} {params : Arguments} {body : List Stmt} {scope : Scope} {v1 v2 v3 v4 cdv v5 v6 : Value} {o1 o2 : Option Addr}
    {slots : Array (Option Value)} {N ps : List Str} {sp : Sp}
    (there : K.lookup f = some ⟨v6, o2, .func (PySem.W.fnOf name qual params body scope v1 v2 v3 v4 o1 cdv v5), slots⟩) (code : PySem.W.codeIn K cdv qual = true) (S : FnScope N ps scope)
    (long : ∀ as H Q E, sp as H Q E → as.length = ps.length)
    (inside : ∀ (Γ : Around) (below : List Env) (st : Shared) (H : Hp) (as : List V) (Q : VK) (E : XK), Γ.guards = some [] →
      Room k (Γ.deeper (envOfC qual scope st.heap.objs.size f cdv)) → sp as H Q E →
      ∃ t, PSs (cxOf CX P w K mg base N qual scope f cdv Γ below st H E) body t ∧ t { nx := fun _ H' => Q .non H', rt := Q } (start N as) H) :
    FnG P w K mg base CX (k + 1) f (PySem.W.fnOf name qual params body scope v1 v2 v3 v4 o1 cdv v5) ps sp := by
  constructor
  · exact long
  intro Γ g room below st H e0 given us as hb hv Q E asked
  have many := long as H Q E asked
  have kin : K.In st.heap := e0.mod.kin.keeps (fun b o z => (e0.bs b o z).1)
  have free : st.heap.NoLimit := e0.mod.nolimit.keeps (fun b o z => (e0.bs b o z).1)
  have names : ∀ y ∈ ps.zip us, scope.names.lookup y.1 = some .local ∨
      (scope.names.lookup y.1 = some .cell ∧ ((cellsFrom (st.heap.objs.size + 1) scope.names []).lookup y.1).isSome = true) := by
    rintro ⟨n, u⟩ hy
    exact (S.par n (List.of_mem_zip hy).1).elim .inl fun z => .inr ⟨z, PySem.W.cellsFrom_some _ _ _ (.inl z)⟩
  apply codeAny_call_function room.depth (kin _ _ there) rfl S.co S.gen rfl (PySem.W.codeRec_of kin code) (hb _ _ _ _ _)
  apply wpAny_newFunctionEnv_cells S.kind names
  rintro env rfl s1 x
  refine ⟨free.keeps x.toInCall.keep, codeAny_func ?_⟩
  obtain ⟨t, derived, reads⟩ := inside Γ below st H as Q E g (room.deeper _) asked
  have I := inv_start (CX := CX) (P := P) (w := w) (K := K) (mg := mg) (base := base) (E := E) S room.hd e0 many hv x
  have back : ∀ {σ' : L2.St} {H' : Hp} {v : V} {u : Value} {s' : Shared}, Inv (cxOf CX P w K mg base N qual scope f cdv Γ below st H E) [] σ' H' s' →
      RelV v u → Q v H' → CE below P w H st Q u s' := by
    intro σ' H' v u s' J rv q
    exact ⟨v, H', J.os, J.bare, J.base, J.hok, rv, q⟩
  refine wpAny_mono (derived.run [] s1 (start N as) H _ I reads) (fun fl s' hs => ?_) (fun _ _ z => z)
  match fl, hs with
  | .next, ⟨_, _, J, q⟩ => exact back (v := V.non) (u := Value.none) J rfl q
  | .ret u, ⟨_, _, _, J, rv, q⟩ => exact back J rv q
  | .brk, ⟨_, _, _, q⟩ => exact q.elim
  | .cont, ⟨_, _, _, q⟩ => exact q.elim

/-! ### calls -/
section
variable {X : Cx} {k : Nat} {f : Addr} {fd : FuncData} {ps : List Str} {sp : Sp} {E : XK} {x : Str} {p pos : Pos} {e : Expr} {es : List Expr} {kws : List Keyword} {t tk : TA}
theorem gone {pins : List (Addr × Obj)} {σ : L2.St} {H : Hp} {s : Shared} {Q : VK} {given : Args} {us : List Value} {as : List V} (F : FnG X.prog X.w X.K X.mg X.base CX k f fd ps sp) (g : X.A.guards = some []) (room : Room k X.A)
    (pass : Passes CX X E) (I : Inv X pins σ H s) (hb : BindsTo s fd given (ps.zip us)) (hv : Vals as us) (asked : sp as H Q E) :
    codeAny (model X.prog X.w) X.A (.call (.ref f) given) (fun r s' => match r with | .ok (.ret u) => EP X pins σ Q u s' | .ok _ => False | .error z => X.xe z s') s := by
  refine codeAny_mono (F.goes X.A g room X.stack s H I.env0 given us as hb hv Q E asked) (fun r s' z => ?_)
  match r, z with
  | .error a, z => exact pass pins σ H s a s' I z
  | .ok (.ret u), z => exact I.after z
  | .ok .next, z => exact z.elim
  | .ok .brk, z => exact z.elim
  | .ok .cont, z => exact z.elim
/-- f(e, ..) -/
theorem pe_go (F : FnG X.prog X.w X.K X.mg X.base CX k f fd ps sp) (g : X.A.guards = some []) (room : Room k X.A) (glob : Gl X x) (at_ : X.mg x = some (.ref f)) (kept : PySem.W.keepIn X.K (.ref f) = true)
    (hb : Binds X.K fd ps []) (pass : Passes CX X E) (ha : PA X (e :: es) t) (nd : (x == ("__debug__" : Str)) = false := by decide)
    (he : starEach (e :: es) X.env = (false, eval e X.env) :: starEach es X.env := by rfl) (plain : (backTo pos (starEach es X.env)).any (·.1) = false := by rfl) :
    PE X (.Call (.Name x p) (e :: es) [] pos) (tCall sp [] E t) := by
  constructor
  intro pins s σ H Q I h
  apply wpAny_Call_Name_kw (ld_glob I glob at_ _ nd)
  refine PySem.W.callWith_K (h₀ := X.base) I.ok.mod.kin kept (thn (ha.run pos pins s σ H _ I h) ?_) he plain
  rintro us s1 ⟨as, H1, I1, rv, asked⟩
  rw [List.append_nil] at asked
  have many : us.length = ps.length := by rw [← rv.length]; exact F.long _ _ _ _ asked
  have bound := hb s1 us I1.kIn (by simpa using many)
  rw [List.append_nil] at bound
  exact ⟨I1.kIn, wpAny_call (gone F g room pass I1 bound rv asked)⟩
/-- f(e, .., k = v, ..) -/
theorem pe_goK {ks : List Str} {gg : List Value → List Value → List Value} {gV : List V → List V → List V} (F : FnG X.prog X.w X.K X.mg X.base CX k f fd ps sp) (g : X.A.guards = some []) (room : Room k X.A) (glob : Gl X x) (at_ : X.mg x = some (.ref f))
    (kept : PySem.W.keepIn X.K (.ref f) = true) (hb : KBinds X.K fd ps ks gg gV) (pass : Passes CX X E) (ha : PA X (e :: es) t) (hk : PK X kws tk) (all : (backToKw pos (keywordEach kws X.env)).all (·.1.isSome) = true := by rfl)
    (names : (backToKw pos (keywordEach kws X.env)).filterMap (·.1) = ks := by rfl) (nd : (x == ("__debug__" : Str)) = false := by decide) (he : starEach (e :: es) X.env = (false, eval e X.env) :: starEach es X.env := by rfl)
    (plain : ((backTo pos (starEach (e :: es) X.env)).any (·.1) || (backToKw pos (keywordEach kws X.env)).any (·.1.isNone)) = false := by rfl) :
    PE X (.Call (.Name x p) (e :: es) kws pos) (tCallK sp gV E t tk) := by
  constructor
  intro pins s σ H Q I h
  apply wpAny_Call_Name_kw (ld_glob I glob at_ _ nd)
  refine PySem.W.callWith_KW (h₀ := X.base) I.ok.mod.kin kept all (thn (ha.run pos pins s σ H _ I h) ?_) plain he
  rintro us s1 ⟨as, H1, I1, rv, q⟩
  refine thn (hk.run pos pins s1 σ H1 _ I1 q) ?_
  rintro ws s2 ⟨zs, H2, I2, rz, asked⟩
  rw [names]
  have both := hb.rel rv rz
  have many : (gg us ws).length = ps.length := by rw [← both.length]; exact F.long _ _ _ _ asked
  exact ⟨I2.kIn, wpAny_call (gone F g room pass I2 (hb.to s2 us ws I2.kIn many) both asked)⟩
/-- f(k = v, ..), no argument by position -/
theorem pe_goN {ks : List Str} {gg : List Value → List Value → List Value} {gV : List V → List V → List V} (F : FnG X.prog X.w X.K X.mg X.base CX k f fd ps sp) (g : X.A.guards = some []) (room : Room k X.A) (glob : Gl X x) (at_ : X.mg x = some (.ref f))
    (kept : PySem.W.keepIn X.K (.ref f) = true) (hb : KBinds X.K fd ps ks gg gV) (pass : Passes CX X E) (hk : PK X kws tk) (all : (backToKw pos (keywordEach kws X.env)).all (·.1.isSome) = true := by rfl)
    (names : (backToKw pos (keywordEach kws X.env)).filterMap (·.1) = ks := by rfl) (nd : (x == ("__debug__" : Str)) = false := by decide)
    (plain : ((backTo pos (starEach [] X.env)).any (·.1) || (backToKw pos (keywordEach kws X.env)).any (·.1.isNone)) = false := by rfl) :
    PE X (.Call (.Name x p) [] kws pos) (tCallK sp gV E tNil tk) := by
  constructor
  intro pins s σ H Q I h
  apply wpAny_Call_Name_kw (ld_glob I glob at_ _ nd)
  refine PySem.W.callWith_KW0 (h₀ := X.base) I.ok.mod.kin kept all (thn (hk.run pos pins s σ H _ I h) ?_) plain
  rintro ws s2 ⟨zs, H2, I2, rz, asked⟩
  rw [names]
  have both := hb.rel (vs := []) (us := []) .nil rz
  have many : (gg [] ws).length = ps.length := by rw [← both.length]; exact F.long _ _ _ _ asked
  exact ⟨I2.kIn, wpAny_call (gone F g room pass I2 (hb.to s2 [] ws I2.kIn many) both asked)⟩
end
end

/-! ### the end: the law's own call -/
section
variable {P : Program} {w : World} {K : PySem.W.Frag} {mg : Str → Option Value} {CX : CXT}
/-- the script alone is told, or nothing -/
def onlyAt (a : Addr) (u : Option HO) : Hp := fun b => if b = a then u else none
theorem onlyAt_same {a : Addr} {u : Option HO} : onlyAt a u a = u := if_pos rfl
theorem onlyAt_ne {a b : Addr} {u : Option HO} (h : b ≠ a) : onlyAt a u b = none := if_neg h

theorem law_goes {k : Nat} {fa a : Addr} {fd : FuncData} {x : Str} {sp : Sp} {st : Shared} {us : List Value} {ns : List Int} {mb : Str → Option Value} {u : Option HO}
    (kin : K.In st.heap) (glob : st.heap.Ns mainGlobals mg) (blt : st.heap.Ns builtinsNs mb) (boot : ∀ y : Str, y ≠ "__name__" → mb y = bootBuiltins y) (free : st.heap.NoLimit) (nogen : st.gens = #[])
    (list : st.heap.get? a = some { cls := .type "list", data := .seq us.toArray }) (nums : IntsAre us ns) (short : ns.length ≤ sizeLine) (room : Room k callerA)
    (told : u = none ∨ (u = some (.frz { cls := .type "list", data := .seq us.toArray } (.lst (ns.map V.int))) ∧ K.lookup a = none))
    (F : ∀ base : Heap, K.In base → base.Ns mainGlobals mg → FnG P w K mg base CX k fa fd [x] sp) (bind : ∀ (s : Shared) (y : Value), BindsTo s fd ⟨[y], []⟩ [(x, y)])
    (asked : sp [.ref a] (onlyAt a u) (fun v _ => v = .bl true) fun _ _ _ => False) (quiet : ∀ H e s', CX [] H st (fun _ _ _ => False) e s' → False) :
    codeAny (model P w) callerA (.call (.ref fa) ⟨[.ref a], []⟩) (fun r s' => r = .ok (.ret (.bool true)) ∧ OldK st.heap s'.heap ∧ s'.os = st.os ∧ AllBare s'.gens) st := by
  have vals := vals_ints nums
  have held : HOk P w (onlyAt a u) st.heap := by
    intro b o q
    by_cases hb : b = a
    · rw [hb, onlyAt_same] at q
      rcases told with z | ⟨z, _⟩
      · rw [z] at q; cases q
      · rw [z] at q
        cases q
        rw [hb]
        exact ⟨list, by rw [List.length_map]; exact short, us, _, vals, list⟩
    · rw [onlyAt_ne hb] at q; cases q
  have away : ∀ {b : Addr} {o : Obj}, st.heap.get? b = some o → (b = a → u = none) → (hidT st.heap (onlyAt a u)).get? b = some o := by
    intro b o e h
    refine hidT_get e ?_
    by_cases hb : b = a
    · rw [hb, onlyAt_same]; exact h hb
    · exact onlyAt_ne hb
  have spaces : ∀ {b : Addr} {m : Str → Option Value}, st.heap.Ns b m → (hidT st.heap (onlyAt a u)).Ns b m := by
    rintro b m ⟨o, es, ep, e, d, r⟩
    refine ⟨o, es, ep, away e (fun hb => ?_), d, r⟩
    rw [hb, list] at e
    cases e
    exact nomatch d
  have kin' : K.In (hidT st.heap (onlyAt a u)) := by
    intro b o e
    refine away (kin b o e) (fun hb => ?_)
    rcases told with z | ⟨_, z⟩
    · exact z
    · rw [hb, z] at e; cases e
  have around : Env0 P w K mg (hidT st.heap (onlyAt a u)) callerA [] st (onlyAt a u) := {
    frames := rfl
    mod := ⟨kin', spaces glob, ⟨mb, spaces blt, boot⟩, free.elim fun mc z => ⟨mc, spaces z.1, z.2⟩⟩
    bs := fun b o e => of_hidT e
    bsz := Nat.le_of_eq (hidT_size _ _)
    funs := trivial
    frf := fun b z => nomatch z
    hok := held
    bare := .of_eq nogen }
  have run := (F _ kin' (spaces glob)).goes callerA rfl room [] st _ around ⟨[.ref a], []⟩ [.ref a] [.ref a] (bind st (.ref a)) (.cons rfl .nil) _ _ asked
  refine codeAny_mono run (fun r s' z => ?_)
  match r, z with
  | .error e, z => exact (quiet _ e s' z).elim
  | .ok .next, z => exact z.elim
  | .ok .brk, z => exact z.elim
  | .ok .cont, z => exact z.elim
  | .ok (.ret y), ⟨v, H', os, bare, un, held', ry, q⟩ =>
    have q : v = .bl true := q
    rw [q] at ry
    have ry : y = Value.bool true := ry
    rw [ry]
    refine ⟨rfl, OldK.of_keep (fun b o e => ?_), os, bare⟩
    by_cases hb : b = a ∧ u ≠ none
    · rcases told with z | ⟨z, _⟩
      · exact absurd z hb.2
      · have f0 : onlyAt a u a = some (.frz { cls := .type "list", data := .seq us.toArray } (.lst (ns.map V.int))) := onlyAt_same.trans z
        have f1 := (held' a _ (un.frzs a _ _ f0)).1
        rw [hb.1] at e ⊢
        rw [list] at e
        cases e
        exact f1
    · refine un.keep b o e ?_ (fun z => nomatch z) (fun z => nomatch z)
      by_cases hb' : b = a
      · rw [hb', onlyAt_same]
        exact Classical.byContradiction fun z => hb ⟨hb', z⟩
      · exact onlyAt_ne hb'

/-- what the law is told of its script -/
def Scr (K : PySem.W.Frag) (a : Addr) (ns : List Int) (H : Hp) : Prop := SqL K H a (ns.map V.int) ∧ ∀ b o, H b = some o → b = a
theorem walkG {l : PySem.W.OpenLaw} {n k : Nat} {q : Program} {loose : List Str} {XP : (Str → Option Value) → Heap → Prop} {YP : World → Heap → Prop} {d : DefRec} {K : Params → PySem.W.Frag} {CX : World → CXT} {sp : World → Sp} {x : Str}
    (most : l.most = some n) (line : n ≤ sizeLine) (plain : d.params.defaults = []) (room : Room k callerA) (has : ∀ (w : World) (h : Heap), YP w h → (K w.params).In h)
    (F : ∀ (w : World) (mg : Str → Option Value) (fa : Addr) (h : Heap), (K w.params).In h → h.Ns mainGlobals mg → mg d.name = some (.ref fa) → ∃ fd : FuncData, (∀ (s : Shared) (u : Value), BindsTo s fd ⟨[u], []⟩ [(x, u)]) ∧
        ∀ base : Heap, (K w.params).In base → base.Ns mainGlobals mg → FnG l.prog w (K w.params) mg base (CX w) k fa fd [x] (sp w))
    (asked : ∀ (w : World) (H : Hp) (a : Addr) (ns : List Int), ns.length ≤ n → Scr (K w.params) a ns H → sp w [.ref a] H (fun v _ => v = .bl true) fun _ _ _ => False)
    (quiet : ∀ (w : World) (H : Hp) (s : Shared) (e : Value) (s' : Shared), CX w [] H s (fun _ _ _ => False) e s' → False) :
    PySem.W.WalkO q loose XP YP l.row.toRowW d [] (fun f vs => PySem.call f vs) := by
  apply Att.attach_call most plain
  intro w s₀ st mg mb fa o pm cd doc a us ns G Y ho hd hcd hmg list nums long nogen
  have kin := has w _ Y
  obtain ⟨fd, bind, ok⟩ := F w mg fa _ kin G.T.g hmg
  have short := Nat.le_trans long line
  cases e : (K w.params).lookup a with
  | none =>
    exact law_goes kin G.T.g G.T.b G.T.builtins G.T.nolimit nogen list nums short room (.inr ⟨rfl, e⟩) ok bind
      (asked w _ a ns long ⟨.inl (.inr ⟨_, onlyAt_same⟩), fun b o z => Classical.byContradiction fun h => by rw [onlyAt_ne h] at z; cases z⟩) (fun H e s' => quiet w H st e s')
  | some ob =>
    have same := kin a ob e
    rw [list] at same
    cases same
    refine law_goes kin G.T.g G.T.b G.T.builtins G.T.nolimit nogen list nums short room (.inl rfl) ok bind
      (asked w _ a ns long ⟨.inr ⟨_, us.toArray, _, e, rfl, rfl, rfl, ?_, ?_⟩, fun b o z => ?_⟩) (fun H e s' => quiet w H st e s')
    · rw [List.size_toArray, nums.length]; exact short
    · simpa using vals_ints nums
    · by_cases h : b = a
      · exact h
      · rw [onlyAt_ne h] at z; cases z
end
end U

namespace U
open PySem L2 Evl

/-- from (B, H) to (B', H'): B' is B and some that is new behind H -/
structure New (B H B' H' : Hp) : Prop where
  ext : Ex B B'
  sub : Ex B' H'
  heap : Ex H H'
  fresh : ∀ a, B a = none → H a ≠ none → B' a = none
section
variable {B H B1 H1 B2 H2 : Hp}
theorem New.refl (e : Ex B H) : New B H B H := ⟨Ex.refl _, e, Ex.refl _, fun _ h _ => h⟩
theorem New.trans (a : New B H B1 H1) (b : New B1 H1 B2 H2) : New B H B2 H2 :=
  ⟨a.ext.trans b.ext, b.sub, a.heap.trans b.heap, fun p h1 h2 => b.fresh p (a.fresh p h1 h2) fun h3 => by
    cases q : H p with
    | none => exact h2 q
    | some o => rw [a.heap p o q] at h3; cases h3⟩
theorem New.grow (e : Ex B H1) (h : Ex H H1) (e0 : Ex B H) : New B H B H1 := ⟨Ex.refl _, e, h, fun _ h _ => h⟩
/-- one new object -/
theorem New.one {p : Addr} {o : HO} (e : Ex B H) (h : H p = none) : New B H (upd B p o) (upd H p o) := by
  have hb : B p = none := fresh_back e h
  refine ⟨Ex.new hb, fun a u q => ?_, Ex.new h, fun a h1 h2 => ?_⟩
  · by_cases ha : a = p
    · subst ha; rw [upd_same] at q ⊢; exact q
    · rw [upd_ne ha] at q ⊢; exact e a u q
  · rw [upd_ne (fun z => by subst z; exact h2 h)]; exact h1
/-- what may be read in either -/
def join (B C : Hp) : Hp := fun a => match B a with | some o => some o | none => C a
theorem join_l : Ex B (join B B1) := fun a o h => by unfold join; rw [h]
theorem join_r (h1 : Ex B H) (h2 : Ex B1 H) : Ex B1 (join B B1) := fun a o h => by
  unfold join
  cases q : B a with
  | none => exact h
  | some u =>
    have x := h1 a u q
    rw [h2 a o h] at x
    exact x.symm
theorem join_sub (h1 : Ex B H) (h2 : Ex B1 H) : Ex (join B B1) H := fun a o h => by
  unfold join at h
  cases q : B a with
  | none => rw [q] at h; exact h2 a o h
  | some u => rw [q] at h; cases h; exact h1 a _ q
end

def EvR (te : TE) (σ : L2.St) (B : Hp) (d : Dt) : Prop := ∀ H1, Ex B H1 → ∀ Q : VK, (∀ v B2 H2, New B H1 B2 H2 → R B2 v d → Q v H2) → te σ H1 Q
def EvRA (ta : TA) (σ : L2.St) (B : Hp) (ds : List Dt) : Prop := ∀ H1, Ex B H1 → ∀ Q : List V → Hp → Prop, (∀ vs B2 H2, New B H1 B2 H2 → RA B2 vs ds → Q vs H2) → ta σ H1 Q
/-- a test -/
def EvC (tt : TT) (σ : L2.St) (B : Hp) (b : Bool) : Prop := ∀ H1, Ex B H1 → ∀ Q : Bool → Hp → Prop, (∀ H2, Ex H1 H2 → Q b H2) → tt σ H1 Q
/-- an operation on two, on one; a call on values -/
def RV (r : R2) (x y : Dt) (z : Dt) : Prop := ∀ B H1 v w, Ex B H1 → R B v x → R B w y → ∀ Q : VK, (∀ u B2 H2, New B H1 B2 H2 → R B2 u z → Q u H2) → r v w H1 Q
def RU (r : V → Hp → VK → Prop) (x : Dt) (z : Dt) : Prop := ∀ B H1 v, Ex B H1 → R B v x → ∀ Q : VK, (∀ u B2 H2, New B H1 B2 H2 → R B2 u z → Q u H2) → r v H1 Q
def RL (r : List V → Hp → VK → Prop) (xs : List Dt) (z : Dt) : Prop := ∀ B H1 vs, Ex B H1 → RA B vs xs → ∀ Q : VK, (∀ u B2 H2, New B H1 B2 H2 → R B2 u z → Q u H2) → r vs H1 Q

section
variable {K : PySem.W.Frag} {σ : L2.St} {B B' H : Hp} {ta tb te : TE} {t u : TT} {tl tr : TA} {x y z d e : Dt} {xs ds : List Dt} {r : R2} {a b : Bool} {i j : Int}
theorem EvR.mono (e : Ex B B') (h : EvR te σ B d) : EvR te σ B' d := fun H1 e1 Q q => h H1 (e.trans e1) Q fun v B2 H2 n rv =>
  q v (join B' B2) H2 ⟨join_l, join_sub (e1.trans n.heap) n.sub, n.heap, fun p h1 h2 => by
    unfold join
    rw [h1]
    exact n.fresh p (fresh_back e h1) h2⟩ (rv.mono (join_r (e1.trans n.heap) n.sub))
theorem EvRA.mono (e : Ex B B') (h : EvRA tl σ B ds) : EvRA tl σ B' ds := fun H1 e1 Q q => h H1 (e.trans e1) Q fun v B2 H2 n rv =>
  q v (join B' B2) H2 ⟨join_l, join_sub (e1.trans n.heap) n.sub, n.heap, fun p h1 h2 => by
    unfold join
    rw [h1]
    exact n.fresh p (fresh_back e h1) h2⟩ (rv.mono (join_r (e1.trans n.heap) n.sub))
theorem EvC.mono (e : Ex B B') (h : EvC t σ B b) : EvC t σ B' b := fun H1 e1 Q q => h H1 (e.trans e1) Q q
theorem EvR.is (h : EvR te σ B d) (q : d = e) : EvR te σ B e := q ▸ h
theorem EvC.is (h : EvC t σ B a) (q : a = b) : EvC t σ B b := q ▸ h

theorem ev_v {n : Nat} {v : V} (h : σ[n]? = some (some v)) (rv : R B v d) : EvR (tVar n) σ B d := fun H1 e Q q => ⟨v, h, q v B H1 (New.refl e) rv⟩
theorem ev_i : EvR (tC (.int i)) σ B (.int i) := fun H1 e Q q => q _ B H1 (New.refl e) (.int i)
theorem ev_b : EvR (tC (.bl a)) σ B (.bl a) := fun H1 e Q q => q _ B H1 (New.refl e) (.bl a)
theorem ev_s {s : Str} : EvR (tC (.str s)) σ B (.str s) := fun H1 e Q q => q _ B H1 (New.refl e) (.str s)
theorem ev_n : EvR (tC .non) σ B .non := fun H1 e Q q => q _ B H1 (New.refl e) .non
theorem ev_op (ha : EvR ta σ B x) (hb : EvR tb σ B y) (hr : RV r x y z) : EvR (tOp r ta tb) σ B z := fun H1 e Q q =>
  ha H1 e _ fun v B2 H2 n rv => (hb.mono n.ext) H2 n.sub _ fun w B3 H3 n2 rw => hr B3 H3 v w n2.sub (rv.mono n2.ext) rw Q fun c B4 H4 n3 rc => q c B4 H4 ((n.trans n2).trans n3) rc
theorem ev_un {f : V → Hp → VK → Prop} (ha : EvR ta σ B x) (hr : RU f x z) : EvR (tUn f ta) σ B z := fun H1 e Q q =>
  ha H1 e _ fun v B2 H2 n rv => hr B2 H2 v n.sub rv Q fun c B4 H4 n3 rc => q c B4 H4 (n.trans n3) rc
theorem ea_nil : EvRA tNil σ B [] := fun H1 e Q q => q [] B H1 (New.refl e) .nil
theorem ea_cons (h : EvR te σ B x) (hr : EvRA tr σ B xs) : EvRA (tCons te tr) σ B (x :: xs) := fun H1 e Q q =>
  h H1 e _ fun v B2 H2 n rv => (hr.mono n.ext) H2 n.sub _ fun vs B3 H3 n2 rvs => q (v :: vs) B3 H3 (n.trans n2) (.cons (rv.mono n2.ext) rvs)
theorem ev_cb {f : List V → Hp → VK → Prop} (h : EvRA tl σ B xs) (hr : RL f xs z) : EvR (tCB f tl) σ B z := fun H1 e Q q =>
  h H1 e _ fun vs B2 H2 n rv => hr B2 H2 vs n.sub rv Q fun c B4 H4 n3 rc => q c B4 H4 (n.trans n3) rc
theorem ev_tup (h : EvRA tl σ B ds) (hl : ds.length ≤ 100000) : EvR (tTup tl) σ B (.tup ds) := fun H1 e Q q =>
  h H1 e _ fun vs B2 H2 n rv => ⟨by rw [rv.len]; exact sz_of hl, fun p hp => q _ (upd B2 p (.tup vs)) _ (n.trans (New.one n.sub hp)) (.tup upd_same (rv.mono (Ex.new (fresh_back n.sub hp))))⟩
theorem ev_lst (h : EvRA tl σ B ds) (hl : ds.length ≤ 100000) : EvR (tLst tl) σ B (.lst ds) := fun H1 e Q q =>
  h H1 e _ fun vs B2 H2 n rv => ⟨by rw [rv.len]; exact sz_of hl, fun p hp => q _ (upd B2 p (.lst vs)) _ (n.trans (New.one n.sub hp)) (.lst upd_same (rv.mono (Ex.new (fresh_back n.sub hp))))⟩
/-- if without loss: the value is an if -/
theorem ev_if (h : EvC t σ B b) (h1 : b = true → EvR ta σ B x) (h2 : b = false → EvR tb σ B x) : EvR (tIf t ta tb) σ B x := fun H1 e Q q => h H1 e _ fun H2 e2 => by
  have g : ∀ (ty : TE), EvR ty σ B x → ty σ H2 Q := fun ty hy => hy H2 (e.trans e2) Q fun v B3 H3 n rv => q v B3 H3 ((New.grow (e.trans e2) e2 e).trans n) rv
  cases b with
  | true => exact g ta (h1 rfl)
  | false => exact g tb (h2 rfl)
theorem ev_ifI (h : EvC t σ B b) (h1 : EvR ta σ B (.int i)) (h2 : EvR tb σ B (.int j)) : EvR (tIf t ta tb) σ B (.int (if b = true then i else j)) :=
  ev_if h (fun e => h1.is (by rw [e]; rfl)) (fun e => h2.is (by rw [e]; rfl))
theorem ev_and (h1 : EvR ta σ B (.bl a)) (h2 : a = true → EvR tb σ B (.bl b)) : EvR (tAndV ta tb) σ B (.bl (a && b)) := fun H1 e Q q => h1 H1 e _ fun v B2 H2 n rv => by
  cases rv
  refine ⟨a, rfl, ?_⟩
  cases a with
  | true => exact ((h2 rfl).mono n.ext) H2 n.sub Q fun v B3 H3 n2 r2 => q v B3 H3 (n.trans n2) r2
  | false => exact q _ B2 H2 n (.bl false)
theorem ev_or (h1 : EvR ta σ B (.bl a)) (h2 : a = false → EvR tb σ B (.bl b)) : EvR (tOrV ta tb) σ B (.bl (a || b)) := fun H1 e Q q => h1 H1 e _ fun v B2 H2 n rv => by
  cases rv
  refine ⟨a, rfl, ?_⟩
  cases a with
  | false => exact ((h2 rfl).mono n.ext) H2 n.sub Q fun v B3 H3 n2 r2 => q v B3 H3 (n.trans n2) r2
  | true => exact q _ B2 H2 n (.bl true)
theorem ev_not (h1 : EvR ta σ B (.bl a)) : EvR (tNotV ta) σ B (.bl (!a)) := fun H1 e Q q => h1 H1 e _ fun v B2 H2 n rv => by
  cases rv
  exact ⟨a, rfl, q _ B2 H2 n (.bl _)⟩
/-- tests -/
theorem ec_t (h : EvR te σ B (.bl a)) : EvC (tTest te) σ B a := fun H1 e Q q => h H1 e _ fun v B2 H2 n rv => by
  cases rv
  exact ⟨a, rfl, q H2 n.heap⟩
theorem ec_v (h : EvR te σ B (.bl a)) : EvC (tB te) σ B a := fun H1 e Q q => h H1 e _ fun v B2 H2 n rv => by
  cases rv
  exact ⟨a, rfl, q H2 n.heap⟩
theorem ec_and (h1 : EvC t σ B a) (h2 : a = true → EvC u σ B b) : EvC (tAnd t u) σ B (a && b) := fun H1 e Q q => h1 H1 e _ fun H2 e2 => by
  cases a with
  | true => exact h2 rfl H2 (e.trans e2) Q fun H3 e3 => q H3 (e2.trans e3)
  | false => exact q H2 e2
theorem ec_or (h1 : EvC t σ B a) (h2 : a = false → EvC u σ B b) : EvC (tOr t u) σ B (a || b) := fun H1 e Q q => h1 H1 e _ fun H2 e2 => by
  cases a with
  | false => exact h2 rfl H2 (e.trans e2) Q fun H3 e3 => q H3 (e2.trans e3)
  | true => exact q H2 e2
theorem ec_not (h1 : EvC t σ B a) : EvC (tNot t) σ B (!a) := fun H1 e _ q => h1 H1 e _ fun H2 e2 => q H2 e2
theorem ec_yes : EvC tYes σ B true := fun H1 e _ q => q H1 (Ex.refl H1)

/-! ### operations -/
theorem rv_I0 {g : Int → Int → V} {g' : Int → Int → Dt} (h : ∀ B i j, R B (g i j) (g' i j)) : RV (rI0 g) (.int i) (.int j) (g' i j) := fun B H1 v w e r1 r2 Q q => by
  cases r1; cases r2
  exact ⟨i, j, rfl, rfl, q _ B H1 (New.refl e) (h B i j)⟩
theorem rv_I {C : Int → Int → Prop} {g : Int → Int → V} {g' : Int → Int → Dt} (h : ∀ B i j, R B (g i j) (g' i j)) (hc : C i j) : RV (rI C g) (.int i) (.int j) (g' i j) := fun B H1 v w e r1 r2 Q q => by
  cases r1; cases r2
  exact ⟨i, j, rfl, rfl, hc, q _ B H1 (New.refl e) (h B i j)⟩
theorem rv_add : RV (rI0 fun i j => .int (i + j)) (.int i) (.int j) (.int (i + j)) := rv_I0 (g' := fun i j => .int (i + j)) fun _ _ _ => .int _
theorem rv_sub : RV (rI0 fun i j => .int (i - j)) (.int i) (.int j) (.int (i - j)) := rv_I0 (g' := fun i j => .int (i - j)) fun _ _ _ => .int _
theorem rv_mul (h : CMul i j) : RV (rI CMul fun i j => .int (i * j)) (.int i) (.int j) (.int (i * j)) := rv_I (g' := fun i j => .int (i * j)) (fun _ _ _ => .int _) h
theorem rv_mod (h : 0 < j) : RV (rI (fun _ j => 0 < j) fun i j => .int (i % j)) (.int i) (.int j) (.int (i % j)) := rv_I (g' := fun i j => .int (i % j)) (fun _ _ _ => .int _) h
theorem rv_div (h : CDiv i j) : RV (rI CDiv fun i j => .int (i / j)) (.int i) (.int j) (.int (i / j)) := rv_I (g' := fun i j => .int (i / j)) (fun _ _ _ => .int _) h
theorem rv_pow (h : CPow i j) : RV (rI CPow fun i j => .int (i ^ j.toNat)) (.int i) (.int j) (.int (i ^ j.toNat)) := rv_I (g' := fun i j => .int (i ^ j.toNat)) (fun _ _ _ => .int _) h
theorem rv_shr (h : 0 ≤ j) : RV (rI (fun _ j => 0 ≤ j) fun i j => .int (i / 2 ^ j.toNat)) (.int i) (.int j) (.int (i / 2 ^ j.toNat)) := rv_I (g' := fun i j => .int (i / 2 ^ j.toNat)) (fun _ _ _ => .int _) h
theorem rv_lt : RV (rI0 fun i j => .bl (decide (i < j))) (.int i) (.int j) (.bl (decide (i < j))) := rv_I0 (g' := fun i j => .bl (decide (i < j))) fun _ _ _ => .bl _
theorem rv_le : RV (rI0 fun i j => .bl (decide (i ≤ j))) (.int i) (.int j) (.bl (decide (i ≤ j))) := rv_I0 (g' := fun i j => .bl (decide (i ≤ j))) fun _ _ _ => .bl _
theorem rv_gt : RV (rI0 fun i j => .bl (decide (j < i))) (.int i) (.int j) (.bl (decide (j < i))) := rv_I0 (g' := fun i j => .bl (decide (j < i))) fun _ _ _ => .bl _
theorem rv_ge : RV (rI0 fun i j => .bl (decide (j ≤ i))) (.int i) (.int j) (.bl (decide (j ≤ i))) := rv_I0 (g' := fun i j => .bl (decide (j ≤ i))) fun _ _ _ => .bl _
theorem ru_neg : RU (rU fun i => .int (-i)) (.int i) (.int (-i)) := fun B H1 v e r1 Q q => by
  cases r1
  exact ⟨i, rfl, q _ B H1 (New.refl e) (.int _)⟩
/-- == and != of plain values; of data -/
def rOr (r r' : R2) : R2 := fun x y H Q => r x y H Q ∨ r' x y H Q
theorem rv_inl {r r' : R2} (h : RV r x y z) : RV (rOr r r') x y z := fun B H1 v w e r1 r2 Q q => .inl (h B H1 v w e r1 r2 Q q)
theorem rv_inr {r r' : R2} (h : RV r' x y z) : RV (rOr r r') x y z := fun B H1 v w e r1 r2 Q q => .inr (h B H1 v w e r1 r2 Q q)
theorem rv_eqI : RV rEq (.int i) (.int j) (.bl (decide (i = j))) := fun B H1 v w e r1 r2 Q q => by
  cases r1; cases r2
  exact ⟨rfl, q _ B H1 (New.refl e) (by have : decide (V.int i = V.int j) = decide (i = j) := by simp
                                        rw [this]; exact .bl _)⟩
theorem rv_neI : RV rNe (.int i) (.int j) (.bl (!decide (i = j))) := fun B H1 v w e r1 r2 Q q => by
  cases r1; cases r2
  exact ⟨rfl, q _ B H1 (New.refl e) (by have : decide (V.int i = V.int j) = decide (i = j) := by simp
                                        rw [this]; exact .bl _)⟩
theorem rv_eqS {s s' : Str} : RV rEq (.str s) (.str s') (.bl (decide (s = s'))) := fun B H1 v w e r1 r2 Q q => by
  cases r1; cases r2
  exact ⟨rfl, q _ B H1 (New.refl e) (by have : decide (V.str s = V.str s') = decide (s = s') := by simp
                                        rw [this]; exact .bl _)⟩
theorem rv_neS {s s' : Str} : RV rNe (.str s) (.str s') (.bl (!decide (s = s'))) := fun B H1 v w e r1 r2 Q q => by
  cases r1; cases r2
  exact ⟨rfl, q _ B H1 (New.refl e) (by have : decide (V.str s = V.str s') = decide (s = s') := by simp
                                        rw [this]; exact .bl _)⟩
theorem rv_eqD (h1 : SeqAt.shaped x.py = true) (h2 : SeqAt.shaped y.py = true) : RV (rEqD K) x y (.bl (PyData.eqv x.py y.py)) := fun B H1 v w e r1 r2 Q q =>
  ⟨_, _, (r1.mono e).dp (shaped_cln h1), (r2.mono e).dp (shaped_cln h2), h1, h2, q _ B H1 (New.refl e) (.bl _)⟩
theorem rv_neD (h1 : SeqAt.shaped x.py = true) (h2 : SeqAt.shaped y.py = true) : RV (rNeD K) x y (.bl (!PyData.eqv x.py y.py)) := fun B H1 v w e r1 r2 Q q =>
  ⟨_, _, (r1.mono e).dp (shaped_cln h1), (r2.mono e).dp (shaped_cln h2), h1, h2, q _ B H1 (New.refl e) (.bl _)⟩
/-- a place of a list, of a tuple -/
theorem atI_RA {vs : List V} {ds : List Dt} (h : RA B vs ds) (ha : atI ds i = some d) : ∃ v, atI vs i = some v ∧ R B v d := by
  unfold atI at ha ⊢
  rw [h.len]
  cases q : ixN ds.length i with
  | none => rw [q] at ha; cases ha
  | some k =>
    rw [q] at ha
    exact h.get ha
theorem rv_ixL (ha : atI ds i = some d) : RV (rIx K) (.lst ds) (.int i) d := fun B H1 v w e r1 r2 Q q => by
  cases r2
  obtain ⟨p, vs, rfl, hp, ra⟩ := r1.lst_inv
  obtain ⟨v, hv, rv⟩ := atI_RA ra ha
  exact .inl ⟨p, vs, i, v, rfl, rfl, sq_of (e _ _ hp), hv, q v B H1 (New.refl e) rv⟩
theorem rv_ixT (ha : atI ds i = some d) : RV (rIx K) (.tup ds) (.int i) d := fun B H1 v w e r1 r2 Q q => by
  cases r2
  obtain ⟨p, vs, rfl, hp, ra⟩ := r1.tup_inv
  obtain ⟨v, hv, rv⟩ := atI_RA ra ha
  exact .inr (.inl ⟨p, vs, i, v, rfl, rfl, st_of (e _ _ hp), hv, q v B H1 (New.refl e) rv⟩)
/-- lists one behind the other -/
theorem rv_cat {es : List Dt} (h : ds.length + es.length ≤ 100000) : RV rCat (.lst ds) (.lst es) (.lst (ds ++ es)) := fun B H1 v w e r1 r2 Q q => by
  obtain ⟨p, vs, rfl, hp, ra⟩ := r1.lst_inv
  obtain ⟨p2, vs2, rfl, hp2, ra2⟩ := r2.lst_inv
  refine ⟨p, p2, vs, vs2, rfl, rfl, e _ _ hp, e _ _ hp2, by rw [ra.len, ra2.len]; exact sz_of h, fun p hp => ?_⟩
  exact q _ (upd B p (.lst (vs ++ vs2))) _ (New.one e hp) (.lst upd_same ((ra.append ra2).mono (Ex.new (fresh_back e hp))))

/-! ### calls of built-ins -/
theorem rl_lenL : RL (rLenS K) [.lst ds] (.int (ds.length : Int)) := fun B H1 vs e ra Q q => by
  cases ra with | cons r1 r2 =>
  cases r2
  obtain ⟨p, vs, rfl, hp, ra⟩ := r1.lst_inv
  exact ⟨p, vs, rfl, .inl (sq_of (e _ _ hp)), q _ B H1 (New.refl e) (by rw [ra.len]; exact .int _)⟩
theorem rl_lenT : RL (rLenS K) [.tup ds] (.int (ds.length : Int)) := fun B H1 vs e ra Q q => by
  cases ra with | cons r1 r2 =>
  cases r2
  obtain ⟨p, vs, rfl, hp, ra⟩ := r1.tup_inv
  exact ⟨p, vs, rfl, .inr (st_of (e _ _ hp)), q _ B H1 (New.refl e) (by rw [ra.len]; exact .int _)⟩
theorem rl_list : RL (rListS K) [.lst ds] (.lst ds) := fun B H1 vs e ra Q q => by
  cases ra with | cons r1 r2 =>
  cases r2
  obtain ⟨p, vs, rfl, hp, ra⟩ := r1.lst_inv
  exact ⟨p, vs, rfl, .inl (sq_of (e _ _ hp)), fun l hl => q _ (upd B l (.lst vs)) _ (New.one e hl) (.lst upd_same (ra.mono (Ex.new (fresh_back e hl))))⟩
theorem rl_listT : RL (rListS K) [.tup ds] (.lst ds) := fun B H1 vs e ra Q q => by
  cases ra with | cons r1 r2 =>
  cases r2
  obtain ⟨p, vs, rfl, hp, ra⟩ := r1.tup_inv
  exact ⟨p, vs, rfl, .inr (st_of (e _ _ hp)), fun l hl => q _ (upd B l (.lst vs)) _ (New.one e hl) (.lst upd_same (ra.mono (Ex.new (fresh_back e hl))))⟩
def rTupleS (K : PySem.W.Frag) : List V → Hp → VK → Prop := fun xs H Q => ∃ p ys, xs = [.ref p] ∧ ((SqL K H p ys ∧ ∀ l, H l = none → Q (.ref l) (upd H l (.tup ys))) ∨ (SqT K H p ys ∧ Q (.ref p) H))
theorem rl_tuple : RL (rTupleS K) [.lst ds] (.tup ds) := fun B H1 vs e ra Q q => by
  cases ra with | cons r1 r2 =>
  cases r2
  obtain ⟨p, vs, rfl, hp, ra⟩ := r1.lst_inv
  exact ⟨p, vs, rfl, .inl ⟨sq_of (e _ _ hp), fun l hl => q _ (upd B l (.tup vs)) _ (New.one e hl) (.tup upd_same (ra.mono (Ex.new (fresh_back e hl))))⟩⟩
def rAbs : List V → Hp → VK → Prop := fun xs H Q => ∃ i, xs = [.int i] ∧ Q (.int (if i < 0 then -i else i)) H
theorem rl_abs : RL rAbs [.int i] (.int (if i < 0 then -i else i)) := fun B H1 vs e ra Q q => by
  cases ra with | cons r1 r2 =>
  cases r1; cases r2
  exact ⟨i, rfl, q _ B H1 (New.refl e) (.int _)⟩
def rInt1 : List V → Hp → VK → Prop := fun xs H Q => (∃ i, xs = [.int i] ∧ Q (.int i) H) ∨ ∃ k, xs = [.bl k] ∧ Q (.int (if k then 1 else 0)) H
theorem rl_int : RL rInt1 [.int i] (.int i) := fun B H1 vs e ra Q q => by
  cases ra with | cons r1 r2 =>
  cases r1; cases r2
  exact .inl ⟨i, rfl, q _ B H1 (New.refl e) (.int _)⟩
def rMax2 : List V → Hp → VK → Prop := fun xs H Q => ∃ i j, xs = [.int i, .int j] ∧ Q (.int (if j > i then j else i)) H
def rMin2 : List V → Hp → VK → Prop := fun xs H Q => ∃ i j, xs = [.int i, .int j] ∧ Q (.int (if j < i then j else i)) H
theorem rl_max2 : RL rMax2 [.int i, .int j] (.int (if j > i then j else i)) := fun B H1 vs e ra Q q => by
  cases ra with | cons r1 r2 =>
  cases r2 with | cons r2 r3 =>
  cases r1; cases r2; cases r3
  exact ⟨i, j, rfl, q _ B H1 (New.refl e) (.int _)⟩
theorem rl_min2 : RL rMin2 [.int i, .int j] (.int (if j < i then j else i)) := fun B H1 vs e ra Q q => by
  cases ra with | cons r1 r2 =>
  cases r2 with | cons r2 r3 =>
  cases r1; cases r2; cases r3
  exact ⟨i, j, rfl, q _ B H1 (New.refl e) (.int _)⟩
theorem rl_repr (hq : isSeq d = true) (f : Fit d) : RL (fun xs H Q => rRepr H xs Q) [d] (.str d.py.shown) := fun B H1 vs e ra Q q => by
  cases ra with | cons r1 r2 =>
  cases r2
  exact ⟨_, d, rfl, r1.mono e, hq, f, q _ B H1 (New.refl e) (.str _)⟩
theorem rl_all {α : Type} {l : List α} {p : α → Bool} : RL (rAll K) [.lst (l.map fun a => Dt.bl (p a))] (.bl (l.all p)) := fun B H1 vs e ra Q q => by
  cases ra with | cons r1 r2 =>
  cases r2
  obtain ⟨a, vs, rfl, hp, ra⟩ := r1.lst_inv
  refine ⟨a, l.map p, rfl, sq_of (by rw [← ra.bls_inv]; exact e _ _ hp), ?_⟩
  have : (l.map p).all id = l.all p := by rw [List.all_map]; rfl
  rw [this]
  exact q _ B H1 (New.refl e) (.bl _)
/-- the least of ints (0 for none) -/
def minL : List Int → Int
  | [] => 0
  | x :: xs => xs.foldl (fun a b => if b < a then b else a) x
theorem minL_go : ∀ (xs : List Int) (a : Int), (xs.foldl (fun a b => if b < a then b else a) a ∈ a :: xs) ∧ ∀ y ∈ a :: xs, xs.foldl (fun a b => if b < a then b else a) a ≤ y
  | [], a => by simp
  | x :: xs, a => by
    rw [List.foldl_cons]
    obtain ⟨h1, h2⟩ := minL_go xs (if x < a then x else a)
    have hm : (if x < a then x else a) ≤ a ∧ (if x < a then x else a) ≤ x := by split <;> constructor <;> omega
    constructor
    · rcases List.mem_cons.mp h1 with e | e
      · rw [e]
        split
        · exact List.mem_cons_of_mem _ List.mem_cons_self
        · exact List.mem_cons_self
      · exact List.mem_cons_of_mem _ (List.mem_cons_of_mem _ e)
    · intro y hy
      have h3 := h2 _ List.mem_cons_self
      rcases List.mem_cons.mp hy with e | hy
      · rw [e]; omega
      · rcases List.mem_cons.mp hy with e | hy
        · rw [e]; omega
        · exact h2 y (List.mem_cons_of_mem _ hy)
theorem minL_mem {xs : List Int} (h : xs ≠ []) : minL xs ∈ xs := by
  cases xs with
  | nil => exact absurd rfl h
  | cons x xs => exact (minL_go xs x).1
theorem minL_le {xs : List Int} {y : Int} (h : y ∈ xs) : minL xs ≤ y := by
  cases xs with
  | nil => cases h
  | cons x xs => exact (minL_go xs x).2 y h
theorem minL_eq {xs : List Int} {m : Int} (h1 : m ∈ xs) (h2 : ∀ y ∈ xs, m ≤ y) : m = minL xs :=
  Int.le_antisymm (h2 _ (minL_mem (fun e => by rw [e] at h1; cases h1))) (minL_le h1)
theorem rl_min {α : Type} {l : List α} {g : α → Int} (h : l ≠ []) : RL (L2.rMin K) [.lst (l.map fun a => Dt.int (g a))] (.int (minL (l.map g))) := fun B H1 vs e ra Q q => by
  cases ra with | cons r1 r2 =>
  cases r2
  obtain ⟨a, vs, rfl, hp, ra⟩ := r1.lst_inv
  refine ⟨a, l.map g, rfl, sq_of (by rw [← ra.intsf_inv]; exact e _ _ hp), ?_, fun m h1 h2 => ?_⟩
  · rw [List.length_map]; exact List.length_pos_iff.mpr h
  · rw [minL_eq h1 h2]; exact q _ B H1 (New.refl e) (.int _)

/-! ### what kind a value is of -/
def Dt.kind : Dt → String
  | .non => "NoneType" | .bl _ => "bool" | .int _ => "int" | .str _ => "str" | .lst _ => "list" | .tup _ => "tuple" | .exc _ => ""
def Dt.isE : Dt → Bool
  | .exc _ => true
  | _ => false
theorem R.kind {v : V} (e : Ex B H) (h : R B v d) (ne : d.isE = false) : zTyV v H = some d.kind := by
  cases h with
  | lst h _ => simp only [zTyV, e _ _ h, Dt.kind]
  | tup h _ => simp only [zTyV, e _ _ h, Dt.kind]
  | exc _ => cases ne
  | _ => rfl
theorem R.tyx {v : V} (e : Ex B H) (h : R B v d) (ne : d.isE = false) : TyX K H v (.type d.kind) := by
  cases h with
  | non => exact .base .non
  | bl b => exact .base (.bl b)
  | int b => exact .base (.int b)
  | str b => exact .base (.str b)
  | lst h _ => exact .base (.lst (e _ _ h))
  | tup h _ => exact .base (.tup (e _ _ h))
  | exc _ => cases ne
/-- type(x), x perhaps an error -/
def kTypX (x : V) (H : Hp) (Q : VK) : Prop := kTyp x H Q ∨ ∃ a C, x = .ref a ∧ HasE H a C ∧ Q (.ref C) H
theorem rl_typeX {X : Cx} (pins : List (Addr × Obj)) (s : Shared) (σ : L2.St) (H : Hp) (x : V) (v : Value) (Q : VK) (I : Inv X pins σ H s) (r : RelV x v) (h : kTypX x H Q) :
    wpAny (model X.prog X.w) X.A (call (.type "type") [v]) (EP X pins σ Q) X.xe s := by
  rcases h with h | ⟨a, C, rfl, ha, q⟩
  · exact rl_type pins s σ H x v Q I r h
  · cases (show v = Value.ref a from r)
    obtain ⟨⟨oe, vs, ho, hz, hd, _⟩, _, _⟩ := I.hok a _ ha
    have J : PySem.W.InstAt s.heap a oe C none := by
      obtain ⟨oc, od, oda, osl⟩ := oe
      obtain ⟨h1, h2⟩ := hz
      dsimp only at h1 h2 hd
      subst h1 h2 hd
      exact ⟨ho, rfl, rfl, trivial⟩
    exact PySem.W.kto_own J ⟨.ref C, H, I, rfl, q⟩
def tThenX (ta : TE) : TE := fun σ H Q => ta σ H fun x H1 => kTypX x H1 Q
theorem pe_typeX {X : Cx} {a : Expr} {p pos : Pos} {ta : TE} (hg : Gl X "type") (hm : X.mg "type" = none) (ha : PE X a ta) (na : starEach [a] X.env = (false, eval a X.env) :: starEach [] X.env := by rfl) :
    PE X (.Call (.Name "type" p) [a] [] pos) (tThenX ta) := pe_callTy (call_r1 rl_typeX) hg hm (by decide +kernel) (pa_cons ha pa_nil na) (he := na)
def rIsTy : R2 := fun x y H Q => (∃ m n, x = .ty m ∧ y = .ty n ∧ Q (.bl (decide (m = n))) H) ∨ ∃ C n, x = .ref C ∧ y = .ty n ∧ Q (.bl false) H
theorem op_isTX {X : Cx} : OpR X (compareOp .Is) rIsTy := by
  intro pins s σ H x y v u Q I rx ry h
  rcases h with h | ⟨C, n, rfl, rfl, q⟩
  · exact op_isTy pins s σ H x y v u Q I rx ry h
  · cases (show v = Value.ref C from rx)
    cases (show u = Value.type n from ry)
    exact wpAny_is_other rfl (fun z => nomatch z) ⟨.bl false, H, I, rfl, q⟩
/-- type(x) is T -/
theorem ev_isTy {n : String} (h : EvR ta σ B d) (hn : n ≠ "" := by decide) : EvR (tOp rIsTy (tThenX ta) (tC (.ty n))) σ B (.bl (decide (d.kind = n))) := fun H1 e Q q =>
  h H1 e _ fun v B2 H2 nw rv => by
    by_cases ne : d.isE = false
    · exact .inl ⟨_, rv.kind nw.sub ne, .inl ⟨_, _, rfl, rfl, q _ B2 H2 nw (.bl _)⟩⟩
    · cases rv with
      | exc hE =>
        refine .inr ⟨_, _, rfl, nw.sub _ _ hE, .inr ⟨_, _, rfl, rfl, ?_⟩⟩
        have e0 : ∀ C : Addr, decide ((Dt.exc C).kind = n) = false := fun C => decide_eq_false fun z => hn z.symm
        rw [e0] at q
        exact q _ B2 H2 nw (.bl _)
      | _ => exact absurd rfl ne
/-- isinstance(x, T) -/
theorem ev_isi {n : String} {r : Bool} (h : EvR ta σ B d) (hk : kitB d.kind n = some r) (ne : d.isE = false := by rfl) : EvR (tCB (rIsi K) (tCons ta (tCons (tC (.ty n)) tNil))) σ B (.bl r) := fun H1 e Q q =>
  h H1 e _ fun v B2 H2 nw rv => ⟨v, _, _, _, r, rfl, .ty n, rv.tyx nw.sub ne, kit_ty hk, q _ B2 H2 nw (.bl _)⟩
end
end U

namespace U
open PySem L2 Evl

section
variable {K : PySem.W.Frag} {σ : L2.St} {B B' H : Hp} {ta tb te : TE} {t u : TT} {tl tr tk : TA} {x y z d e : Dt} {xs ds es : List Dt} {r : R2} {a b : Bool} {i j : Nat} {D : Ends} {tu tw tz : TS} {g : TG}
/-- the heap alone has grown -/
structure Up (B H H1 : Hp) : Prop where
  old : Ex B H
  sub : Ex B H1
  heap : Ex H H1
theorem Up.new {B H H1 : Hp} (u : Up B H H1) : New B H B H1 := New.grow u.sub u.heap u.old
/-! ### statements -/
theorem s_asg (e : Ex B H) (h : EvR te σ B d) (k : ∀ v B1 H1, New B H B1 H1 → R B1 v d → D.nx (σ.set i (some v)) H1) : tAsg te (gName i) D σ H := h H e _ k
theorem s_ret (e : Ex B H) (h : EvR te σ B d) (k : ∀ v B1 H1, New B H B1 H1 → R B1 v d → D.rt v H1) : tRet te D σ H := h H e _ k
theorem s_retE (e : Ex B H) (h : EvR te σ B x) (q : x = d) (k : ∀ v B1 H1, New B H B1 H1 → R B1 v d → D.rt v H1) : tRet te D σ H := h H e _ fun v B1 H1 n rv => k v B1 H1 n (q ▸ rv)
theorem s_drop (e : Ex B H) (h : EvR te σ B d) (k : ∀ H1, Up B H H1 → D.nx σ H1) : tDrop te D σ H := h H e _ fun v B1 H1 n _ => k H1 ⟨e, e.trans n.heap, n.heap⟩
theorem s_if (e : Ex B H) (h : EvC t σ B b) (h1 : b = true → ∀ H1, Up B H H1 → tu D σ H1) (h2 : b = false → ∀ H1, Up B H H1 → tw D σ H1) : tIfS t tu tw D σ H := h H e _ fun H2 e2 => by
  cases b with
  | true => exact h1 rfl H2 ⟨e, e.trans e2, e2⟩
  | false => exact h2 rfl H2 ⟨e, e.trans e2, e2⟩
theorem s_next (h : D.nx σ H) : tNext D σ H := h
theorem s_seq (h : tu { D with nx := tz D } σ H) : tSeq tu tz D σ H := h
/-- a, b = e -/
theorem s_asg2 (e : Ex B H) (h : EvR te σ B (.tup [x, y])) (k : ∀ v w B1 H1, New B H B1 H1 → R B1 v x → R B1 w y → D.nx ((σ.set i (some v)).set j (some w)) H1) :
    tAsg te (gTup K 2 (gCons (gName i) (gCons (gName j) gNil))) D σ H := h H e _ fun v B1 H1 n rv => by
  obtain ⟨p, vs, rfl, hp, ra⟩ := rv.tup_inv
  cases ra with | cons r1 ra =>
  cases ra with | cons r2 ra =>
  cases ra
  exact ⟨p, _, rfl, st_of (n.sub _ _ hp), rfl, _, _, rfl, _, _, rfl, rfl, k _ _ B1 H1 n r1 r2⟩
/-- a, b = e1, e2 -/
theorem s_par (e : Ex B H) (h : EvRA tl σ B [x, y]) (k : ∀ v w B1 H1, New B H B1 H1 → R B1 v x → R B1 w y → D.nx ((σ.set i (some v)).set j (some w)) H1) : tPar i j tl D σ H := h H e _ fun vs B1 H1 n ra => by
  cases ra with | cons r1 ra =>
  cases ra with | cons r2 ra =>
  cases ra
  exact ⟨_, _, rfl, k _ _ B1 H1 n r1 r2⟩
/-- x = [] -/
theorem s_new (e : Ex B H) (k : ∀ p H1, H p = none → B p = none → H1 = upd H p (.lst []) → Up B H H1 → D.nx (σ.set i (some (.ref p))) H1) : tAsg (tLst tNil) (gName i) D σ H :=
  ⟨Nat.zero_le _, fun p hp => k p _ hp (fresh_back e hp) rfl ⟨e, Ex.mut e (fresh_back e hp), Ex.new hp⟩⟩
/-- a list of one's own -/
structure Own (H0 B H : Hp) (p : Addr) (xs : List V) : Prop where
  h0 : H0 p = none
  b : B p = none
  h : H p = some (.lst xs)
theorem Own.step {H0 B H B1 H1 : Hp} {p : Addr} {xs : List V} (o : Own H0 B H p xs) (n : New B H B1 H1) : Own H0 B1 H1 p xs :=
  ⟨o.h0, n.fresh p o.b (by rw [o.h]; simp), n.heap _ _ o.h⟩
theorem Own.put {H0 B H : Hp} {p : Addr} {xs ys : List V} (o : Own H0 B H p xs) : Own H0 B (upd H p (.lst ys)) p ys := ⟨o.h0, o.b, upd_same⟩
theorem Own.other {H0 B H : Hp} {p q : Addr} {xs : List V} {u : HO} (o : Own H0 B H p xs) (h : p ≠ q) : Own H0 B (upd H q u) p xs := ⟨o.h0, o.b, by rw [upd_ne h]; exact o.h⟩
theorem New.put {B0 H0 B H : Hp} {p : Addr} {xs : List V} {u : HO} (n : New B0 H0 B H) (o : Own H0 B H p xs) : New B0 H0 B (upd H p u) :=
  ⟨n.ext, Ex.mut n.sub o.b, Ex.mut n.heap o.h0, n.fresh⟩
/-- it is handed on as data -/
theorem New.give {B0 H0 B H : Hp} {p : Addr} {xs : List V} (n : New B0 H0 B H) (o : Own H0 B H p xs) : New B0 H0 (upd B p (.lst xs)) H := by
  refine ⟨n.ext.trans (Ex.new o.b), fun q u h => ?_, n.heap, fun q h1 h2 => ?_⟩
  · by_cases hq : q = p
    · subst hq; rw [upd_same] at h; cases h; exact o.h
    · rw [upd_ne hq] at h; exact n.sub q u h
  · rw [upd_ne (fun z => by subst z; exact h2 o.h0)]; exact n.fresh q h1 h2
theorem Own.data {H0 B H : Hp} {p : Addr} {xs : List V} {ds : List Dt} (o : Own H0 B H p xs) (r : RA B xs ds) : R (upd B p (.lst xs)) (.ref p) (.lst ds) := .lst upd_same (r.mono (Ex.new o.b))
/-- p.append(e) -/
theorem s_app {H0 : Hp} {p : Addr} {vs : List V} {n : Nat} (e : Ex B H) (o : Own H0 B H p vs) (hv : σ[n]? = some (some (.ref p))) (h : EvR te σ B d) (hz : vs.length < 100000)
    (k : ∀ v B1 H1, New B H B1 H1 → Own H0 B1 H1 p vs → R B1 v d → D.nx σ (upd H1 p (.lst (vs ++ [v])))) : tDrop (tBM K "list" rAppend (tVar n) (tCons te tNil)) D σ H :=
  ⟨_, hv, .inl ⟨rfl, _, .inl (.inl o.h)⟩, h H e _ fun v B1 H1 nw rv => ⟨p, vs, v, rfl, rfl, (o.step nw).h, sz_lt hz, k v B1 H1 nw (o.step nw) rv⟩⟩

/-! ### loops -/
theorem s_forL (e : Ex B H) (h : EvR te σ B (.lst ds)) (Pv : Hp → Hp → Nat → L2.St → Hp → Prop) (h0 : ∀ B1 H1, New B H B1 H1 → Pv B1 H1 0 σ H1) (hx : ∀ B1 H1 i σ' H', Pv B1 H1 i σ' H' → Ex B1 H')
    (hs : ∀ B1 H1 i d v σ' H', New B H B1 H1 → ds[i]? = some d → R B1 v d → Pv B1 H1 i σ' H' → g v σ' H' fun σ2 H2 => tu { D with nx := Pv B1 H1 (i + 1), ct := Pv B1 H1 (i + 1), bk := D.nx } σ2 H2)
    (hd : ∀ B1 H1 σ' H', New B H B1 H1 → Pv B1 H1 ds.length σ' H' → D.nx σ' H') : tFor (iList K te) g tu D σ H := h H e _ fun v B1 H1 n rv => by
  obtain ⟨p, vs, rfl, hp, ra⟩ := rv.lst_inv
  refine ⟨p, rfl, ⟨vs, sq_of (n.sub _ _ hp)⟩, for_list (K := K) (a := p) (xs := vs) (Pv B1 H1) (h0 B1 H1 n) (fun i σ' H' _ q => sq_of (hx B1 H1 i σ' H' q _ _ hp)) (fun i v σ' H' hi q => ?_) (fun σ' H' q => hd B1 H1 σ' H' n (by rw [← ra.len]; exact q))⟩
  obtain ⟨d, hd', rd⟩ := ra.getV hi
  exact hs B1 H1 i d v σ' H' n hd' rd q
theorem s_forT (e : Ex B H) (h : EvR te σ B (.tup ds)) (Pv : Hp → Hp → Nat → L2.St → Hp → Prop) (h0 : ∀ B1 H1, New B H B1 H1 → Pv B1 H1 0 σ H1) (hx : ∀ B1 H1 i σ' H', Pv B1 H1 i σ' H' → Ex B1 H')
    (hs : ∀ B1 H1 i d v σ' H', New B H B1 H1 → ds[i]? = some d → R B1 v d → Pv B1 H1 i σ' H' → g v σ' H' fun σ2 H2 => tu { D with nx := Pv B1 H1 (i + 1), ct := Pv B1 H1 (i + 1), bk := D.nx } σ2 H2)
    (hd : ∀ B1 H1 σ' H', New B H B1 H1 → Pv B1 H1 ds.length σ' H' → D.nx σ' H') : tFor (iTup K te) g tu D σ H := h H e _ fun v B1 H1 n rv => by
  obtain ⟨p, vs, rfl, hp, ra⟩ := rv.tup_inv
  refine ⟨p, rfl, ⟨vs, st_of (n.sub _ _ hp)⟩, for_tup (K := K) (a := p) (xs := vs) (Pv B1 H1) (h0 B1 H1 n) (fun i σ' H' _ q => st_of (hx B1 H1 i σ' H' q _ _ hp)) (fun i v σ' H' hi q => ?_) (fun σ' H' q => hd B1 H1 σ' H' n (by rw [← ra.len]; exact q))⟩
  obtain ⟨d, hd', rd⟩ := ra.getV hi
  exact hs B1 H1 i d v σ' H' n hd' rd q
/-- for j in range(n) -/
theorem s_forR {n : Int} (e : Ex B H) (h : EvRA tl σ B [.int n]) (hn : 0 ≤ n ∧ n ≤ 1000000) (Pv : Nat → L2.St → Hp → Prop) (h0 : ∀ H1, Up B H H1 → Pv 0 σ H1)
    (hs : ∀ (i : Nat) σ' H', (i : Int) < n → Pv i σ' H' → tu { D with nx := Pv (i + 1), ct := Pv (i + 1), bk := D.nx } (σ'.set j (some (.int (i : Int)))) H') (hd : ∀ σ' H', Pv n.toNat σ' H' → D.nx σ' H') :
    tFor (iRng1 tl) (gName j) tu D σ H := h H e _ fun vs B1 H1 nw ra => by
  cases ra with | cons r1 ra =>
  cases r1; cases ra
  refine ⟨n, rfl, by omega, by omega, for_range (lo := 0) (n := n.toNat) Pv (h0 H1 ⟨e, e.trans nw.heap, nw.heap⟩) (fun i σ' H' hi q => ?_) hd⟩
  have e0 : (0 : Int) + (i : Int) = (i : Int) := Int.zero_add _
  rw [e0]
  exact hs i σ' H' (by omega) q

/-! ### comprehensions -/
def LcI (B1 H1 : Hp) (p : Addr) (out : Nat → List Dt) (i : Nat) (H' : Hp) : Prop := ∃ B' acc, New B1 H1 B' H' ∧ Own H1 B' H' p acc ∧ RA B' acc (out i)
theorem lcI_start {B1 H1 : Hp} {p : Addr} {out : Nat → List Dt} (e : Ex B1 H1) (hp : H1 p = none) (h0 : out 0 = []) : LcI B1 H1 p out 0 (upd H1 p (.lst [])) :=
  ⟨B1, [], ⟨Ex.refl _, Ex.mut e (fresh_back e hp), Ex.new hp, fun _ h _ => h⟩, ⟨hp, fresh_back e hp, upd_same⟩, by rw [h0]; exact .nil⟩
theorem lcI_turn {B1 H1 H' : Hp} {p : Addr} {out : Nat → List Dt} {i : Nat} {c : Bool} {σ2 : L2.St} (q : LcI B1 H1 p out i H') (hz : (out i).length < 100000) (ht : EvC t σ2 B1 c) (he : c = true → EvR te σ2 B1 d)
    (hs : out (i + 1) = if c = true then out i ++ [d] else out i) :
    t σ2 H' fun b H3 => if b = true then te σ2 H3 fun y H4 => ∃ acc, H4 p = some (.lst acc) ∧ acc.length < sizeLine ∧ LcI B1 H1 p out (i + 1) (upd H4 p (.lst (acc ++ [y]))) else LcI B1 H1 p out (i + 1) H3 := by
  obtain ⟨B', acc, n, o, ra⟩ := q
  refine ht H' (n.ext.trans n.sub) _ fun H3 e3 => ?_
  have n3 : New B' H' B' H3 := New.grow (n.sub.trans e3) e3 n.sub
  cases c with
  | true =>
    show te σ2 H3 _
    refine ((he rfl).mono n.ext) H3 n3.sub _ fun v B4 H4 n4 rv => ?_
    have o4 := (o.step n3).step n4
    refine ⟨acc, o4.h, sz_lt (by rw [ra.len]; exact hz), B4, acc ++ [v], (((n.trans n3).trans n4).put o4), o4.put, ?_⟩
    rw [hs]
    exact (ra.mono n4.ext).append (RA.one rv)
  | false =>
    show LcI B1 H1 p out (i + 1) H3
    exact ⟨B', acc, n.trans n3, o.step n3, by rw [hs]; exact ra⟩
theorem outs_step {α : Type} {l : List α} {c : α → Bool} {f : α → Dt} {i : Nat} {q : α} (h : l[i]? = some q) : ((l.take (i + 1)).filter c).map f = if c q = true then ((l.take i).filter c).map f ++ [f q] else ((l.take i).filter c).map f := by
  rw [List.take_add_one, h, Option.toList_some, List.filter_append, List.map_append]
  by_cases hc : c q = true
  · rw [if_pos hc, List.filter_cons, if_pos hc]; rfl
  · rw [if_neg hc, List.filter_cons, if_neg hc]
    show _ ++ [] = _
    rw [List.append_nil]
theorem outs_len {α : Type} {l : List α} {c : α → Bool} {f : α → Dt} (i : Nat) : (((l.take i).filter c).map f).length ≤ l.length := by
  rw [List.length_map]
  exact Nat.le_trans (List.length_filter_le _ _) (by rw [List.length_take]; omega)
/-- [te for j in tl if t], over a list of the data enc q -/
theorem ev_lc {α : Type} {l : List α} {enc : α → Dt} {c : α → Bool} {f : α → Dt} {vs : List Nat} (h : EvR ta σ B (.lst (l.map enc))) (hz : l.length < 100000) (hw : ∀ x, wipe ((wipe σ vs).set j (some x)) vs = wipe σ vs)
    (ht : ∀ q v B1, q ∈ l → Ex B B1 → R B1 v (enc q) → EvC t ((wipe σ vs).set j (some v)) B1 (c q)) (he : ∀ q v B1, q ∈ l → Ex B B1 → R B1 v (enc q) → c q = true → EvR te ((wipe σ vs).set j (some v)) B1 (f q)) :
    EvR (tLc (iList K ta) (gName j) t te vs) σ B (.lst ((l.filter c).map f)) := fun H0 e0 Q k => h H0 e0 _ fun v B1 H1 n rv => by
  obtain ⟨p, us, rfl, hp, ra⟩ := rv.lst_inv
  refine ⟨p, rfl, ⟨us, sq_of (n.sub _ _ hp)⟩, fun q hq => ?_⟩
  have hl : us.length = l.length := by rw [ra.len, List.length_map]
  refine lc_list (xs := us) (LcI B1 H1 q fun i => ((l.take i).filter c).map f) (lcI_start n.sub hq rfl) (fun i H' _ z => ?_) (fun i x H' hi z => ⟨hw x, ?_⟩) (fun H' z => ?_)
  · obtain ⟨B', acc, n', _, _⟩ := z
    exact sq_of (n'.sub _ _ (n'.ext _ _ hp))
  · obtain ⟨d, hd, rd⟩ := ra.getV hi
    rw [List.getElem?_map] at hd
    cases hq' : l[i]? with
    | none => rw [hq'] at hd; cases hd
    | some a =>
      rw [hq'] at hd
      cases hd
      have hm := List.mem_of_getElem? hq'
      exact lcI_turn z (Nat.lt_of_le_of_lt (outs_len i) hz) (ht a x B1 hm n.ext rd) (fun hc => he a x B1 hm n.ext rd hc) (outs_step hq')
  · obtain ⟨B', acc, n', o, ra'⟩ := z
    rw [hl] at ra'
    have ra' : RA B' acc (((l.take l.length).filter c).map f) := ra'
    rw [List.take_length] at ra'
    exact k _ _ H' ((n.trans (n'.give ⟨o.h0, o.b, o.h⟩))) (o.data ra')
/-- without a test -/
theorem ev_lc1 {α : Type} {l : List α} {enc : α → Dt} {f : α → Dt} {vs : List Nat} (h : EvR ta σ B (.lst (l.map enc))) (hz : l.length < 100000) (hw : ∀ x, wipe ((wipe σ vs).set j (some x)) vs = wipe σ vs)
    (he : ∀ q v B1, q ∈ l → Ex B B1 → R B1 v (enc q) → EvR te ((wipe σ vs).set j (some v)) B1 (f q)) : EvR (tLc (iList K ta) (gName j) tYes te vs) σ B (.lst (l.map f)) := by
  have g := ev_lc (K := K) (t := tYes) (c := fun _ => true) (f := f) h hz hw (fun _ _ _ _ _ _ => ec_yes) (fun q v B1 h1 h2 h3 _ => he q v B1 h1 h2 h3)
  rw [List.filter_eq_self.mpr (fun _ _ => rfl)] at g
  exact g
/-- over a tuple -/
theorem ev_lcT {α : Type} {l : List α} {enc : α → Dt} {c : α → Bool} {f : α → Dt} {vs : List Nat} (h : EvR ta σ B (.tup (l.map enc))) (hz : l.length < 100000) (hw : ∀ x, wipe ((wipe σ vs).set j (some x)) vs = wipe σ vs)
    (ht : ∀ q v B1, q ∈ l → Ex B B1 → R B1 v (enc q) → EvC t ((wipe σ vs).set j (some v)) B1 (c q)) (he : ∀ q v B1, q ∈ l → Ex B B1 → R B1 v (enc q) → c q = true → EvR te ((wipe σ vs).set j (some v)) B1 (f q)) :
    EvR (tLc (iTup K ta) (gName j) t te vs) σ B (.lst ((l.filter c).map f)) := fun H0 e0 Q k => h H0 e0 _ fun v B1 H1 n rv => by
  obtain ⟨p, us, rfl, hp, ra⟩ := rv.tup_inv
  refine ⟨p, rfl, ⟨us, st_of (n.sub _ _ hp)⟩, fun q hq => ?_⟩
  have hl : us.length = l.length := by rw [ra.len, List.length_map]
  refine lc_tup (xs := us) (LcI B1 H1 q fun i => ((l.take i).filter c).map f) (lcI_start n.sub hq rfl) (fun i H' _ z => ?_) (fun i x H' hi z => ⟨hw x, ?_⟩) (fun H' z => ?_)
  · obtain ⟨B', acc, n', _, _⟩ := z
    exact st_of (n'.sub _ _ (n'.ext _ _ hp))
  · obtain ⟨d, hd, rd⟩ := ra.getV hi
    rw [List.getElem?_map] at hd
    cases hq' : l[i]? with
    | none => rw [hq'] at hd; cases hd
    | some a =>
      rw [hq'] at hd
      cases hd
      have hm := List.mem_of_getElem? hq'
      exact lcI_turn z (Nat.lt_of_le_of_lt (outs_len i) hz) (ht a x B1 hm n.ext rd) (fun hc => he a x B1 hm n.ext rd hc) (outs_step hq')
  · obtain ⟨B', acc, n', o, ra'⟩ := z
    rw [hl] at ra'
    have ra' : RA B' acc (((l.take l.length).filter c).map f) := ra'
    rw [List.take_length] at ra'
    exact k _ _ H' ((n.trans (n'.give ⟨o.h0, o.b, o.h⟩))) (o.data ra')
theorem ev_lcT1 {α : Type} {l : List α} {enc : α → Dt} {f : α → Dt} {vs : List Nat} (h : EvR ta σ B (.tup (l.map enc))) (hz : l.length < 100000) (hw : ∀ x, wipe ((wipe σ vs).set j (some x)) vs = wipe σ vs)
    (he : ∀ q v B1, q ∈ l → Ex B B1 → R B1 v (enc q) → EvR te ((wipe σ vs).set j (some v)) B1 (f q)) : EvR (tLc (iTup K ta) (gName j) tYes te vs) σ B (.lst (l.map f)) := by
  have g := ev_lcT (K := K) (t := tYes) (c := fun _ => true) (f := f) h hz hw (fun _ _ _ _ _ _ => ec_yes) (fun q v B1 h1 h2 h3 _ => he q v B1 h1 h2 h3)
  rw [List.filter_eq_self.mpr (fun _ _ => rfl)] at g
  exact g
/-- over range(n) -/
theorem ev_lcR {n : Int} {c : Nat → Bool} {f : Nat → Dt} {vs : List Nat} (h : EvRA tl σ B [.int n]) (hz : 0 ≤ n ∧ n < 100000) (hw : ∀ x, wipe ((wipe σ vs).set j (some x)) vs = wipe σ vs)
    (ht : ∀ (q : Nat) B1, (q : Int) < n → Ex B B1 → EvC t ((wipe σ vs).set j (some (.int (q : Int)))) B1 (c q)) (he : ∀ (q : Nat) B1, (q : Int) < n → Ex B B1 → c q = true → EvR te ((wipe σ vs).set j (some (.int (q : Int)))) B1 (f q)) :
    EvR (tLc (iRng1 tl) (gName j) t te vs) σ B (.lst (((List.range n.toNat).filter c).map f)) := fun H0 e0 Q k => h H0 e0 _ fun v B1 H1 nw rv => by
  cases rv with | cons r1 rv =>
  cases r1; cases rv
  refine ⟨n, rfl, by omega, by omega, fun q hq => ?_⟩
  have hl : (List.range n.toNat).length = n.toNat := List.length_range
  refine lc_range (lo := 0) (n := n.toNat) (LcI B1 H1 q fun i => (((List.range n.toNat).take i).filter c).map f) (lcI_start nw.sub hq rfl) (fun i H' hi z => ?_) (fun H' z => ?_)
  · have e0 : (0 : Int) + (i : Int) = (i : Int) := Int.zero_add _
    rw [e0]
    have hq' : (List.range n.toNat)[i]? = some i := by rw [List.getElem?_range hi]
    exact ⟨hw _, lcI_turn z (Nat.lt_of_le_of_lt (outs_len i) (by omega)) (ht i B1 (by omega) nw.ext) (fun hc => he i B1 (by omega) nw.ext hc) (outs_step hq')⟩
  · obtain ⟨B', acc, n', o, ra'⟩ := z
    have ra' : RA B' acc ((((List.range n.toNat).take n.toNat).filter c).map f) := ra'
    rw [List.take_of_length_le (by omega)] at ra'
    exact k _ _ H' ((nw.trans (n'.give ⟨o.h0, o.b, o.h⟩))) (o.data ra')
theorem ev_lcR1 {n : Int} {f : Nat → Dt} {vs : List Nat} (h : EvRA tl σ B [.int n]) (hz : 0 ≤ n ∧ n < 100000) (hw : ∀ x, wipe ((wipe σ vs).set j (some x)) vs = wipe σ vs)
    (he : ∀ (q : Nat) B1, (q : Int) < n → Ex B B1 → EvR te ((wipe σ vs).set j (some (.int (q : Int)))) B1 (f q)) : EvR (tLc (iRng1 tl) (gName j) tYes te vs) σ B (.lst ((List.range n.toNat).map f)) := by
  have g := ev_lcR (t := tYes) (c := fun _ => true) (f := f) h hz hw (fun _ _ _ _ => ec_yes) (fun q B1 h1 h2 _ => he q B1 h1 h2)
  rw [List.filter_eq_self.mpr (fun _ _ => rfl)] at g
  exact g

/-! ### promises by data -/
def spD (g : List Dt → Dt → Prop) : Sp := fun vs H Q _ => ∃ B ds d, Ex B H ∧ RA B vs ds ∧ g ds d ∧ ∀ v B2 H2, New B H B2 H2 → R B2 v d → Q v H2
theorem ev_call {g : List Dt → Dt → Prop} {E : XK} (h : EvRA tl σ B ds) (hg : g ds d) : EvR (tCall (spD g) [] E tl) σ B d := fun H1 e Q q => h H1 e _ fun vs B1 H2 n ra => by
  refine ⟨B1, ds, d, n.sub, ?_, hg, fun v B2 H2 n2 rv => q v B2 H2 (n.trans n2) rv⟩
  rw [List.append_nil]
  exact ra
theorem ev_callK {g : List Dt → Dt → Prop} {E : XK} {gV : List V → List V → List V} {gD : List Dt → List Dt → List Dt} (h : EvRA tl σ B ds) (hk : EvRA tk σ B es) (rel : ∀ B vs ws as bs, RA B vs as → RA B ws bs → as.length = ds.length → bs.length = es.length → RA B (gV vs ws) (gD as bs)) (hg : g (gD ds es) d) :
    EvR (tCallK (spD g) gV E tl tk) σ B d := fun H1 e Q q => h H1 e _ fun vs B1 H2 n ra => (hk.mono n.ext) H2 n.sub _ fun ws B2 H3 n2 rb =>
  ⟨B2, _, d, n2.sub, rel B2 vs ws ds es (ra.mono n2.ext) rb rfl rfl, hg, fun v B3 H4 n3 rv => q v B3 H4 ((n.trans n2).trans n3) rv⟩
end
section
variable {P : Program} {w : World} {K : PySem.W.Frag} {mg : Str → Option Value} {base : Heap}
open PySem.Spec PyProof.Rows in
/-- a def by its body, by data -/
theorem fn_D {x qual : Str} {st : Stmt} {f : Addr} {fd : FuncData} {N ps : List Str} {k : Nat} {g : List Dt → Dt → Prop} (F : Fun K x qual st f fd) (S : FnScope N ps (defScope st)) (len : ∀ ds d, g ds d → ds.length = ps.length)
    (body : ∀ (cdv : Value) (Γ : Around) (below : List Env) (s : Shared) (B H : Hp) (vs : List V) (ds : List Dt) (d : Dt) (Q : VK) (E : XK), Γ.guards = some [] → Room k (Γ.deeper (envOfC qual (defScope st) s.heap.objs.size f cdv)) →
      Ex B H → RA B vs ds → g ds d → (∀ v B2 H2, New B H B2 H2 → R B2 v d → Q v H2) →
      ∃ t, PSs (cxOf CX0 P w K mg base N qual (defScope st) f cdv Γ below s H E).nox (defBody st) t ∧ t { nx := fun _ H' => Q .non H', rt := Q } (start N vs) H) : FnG P w K mg base CX0 (k + 1) f fd ps (spD g) := by
  obtain ⟨oc, od, kV, doc, pm, an, cdv, ct, osl, rfl, lk, hcd⟩ := F.ex
  refine fnG_of lk hcd S (fun vs H Q E h => ?_) (fun Γ below s H vs Q E hg hr h => ?_)
  · obtain ⟨B, ds, d, _, ra, hd, _⟩ := h
    rw [ra.len]
    exact len ds d hd
  · obtain ⟨B, ds, d, e, ra, hd, q⟩ := h
    obtain ⟨t, h1, h2⟩ := body cdv Γ below s B H vs ds d Q E hg hr e ra hd q
    exact ⟨t, h1.nox, h2⟩
end
end U

namespace U
open PySem L2 Evl

section
variable {X : Cx}
theorem op_addA : OpR X (binaryOp .Add) (rOr (rI0 fun i j => .int (i + j)) rCat) := op_add.or op_cat
theorem op_eqA (hu : X.A.units + 64 < cLine) : OpR X (compareOp .Eq) (rOr rEq (rEqD X.K)) := op_eq.or (op_eqD hu)
theorem op_neA (hu : X.A.units + 64 < cLine) : OpR X (compareOp .NotEq) (rOr rNe (rNeD X.K)) := op_ne.or (op_neD hu)
theorem op_isT : OpR X (compareOp .Is) rIsTy := op_isTX
theorem c_len : CallR X (.builtin "len") (rLenS X.K) := call_len_seq
theorem c_list : CallR X (.type "list") (rListS X.K) := call_list_of
theorem c_tuple : CallR X (.type "tuple") (rTupleS X.K) := call_tuple_of
theorem c_abs : CallR X (.builtin "abs") rAbs := call_abs
theorem c_int : CallR X (.type "int") rInt1 := call_int1
theorem c_max (h : X.calm = true) : CallR X (.builtin "max") rMax2 := call_max2 h
theorem c_min (h : X.calm = true) : CallR X (.builtin "min") rMin2 := call_min2 h
def rReprD : List V → Hp → VK → Prop := fun xs H Q => rRepr H xs Q
theorem c_repr (g : X.A.guards = some []) (hu : X.A.units + 64 < cLine) : CallR X (.builtin "repr") rReprD := call_repr g hu
theorem rl_reprD {d : Dt} (hq : isSeq d = true) (f : Fit d) : RL rReprD [d] (.str d.py.shown) := rl_repr hq f
end
/-! ### walking a list or a tuple, whichever it is -/
def iSeq (K : PySem.W.Frag) (tl : TE) : TI := fun σ H R => tl σ H fun x H1 => ∃ a, x = .ref a ∧ (((∃ xs, SqL K H1 a xs) ∧ R (Itl K a) H1) ∨ ((∃ xs, SqT K H1 a xs) ∧ R (Itt K a) H1))
open PySem.Spec PyProof.Rows in
theorem pi_seq {X : Cx} {tg l : Expr} {tl : TE} (hl : PE X l tl) : PI X tg l (iSeq X.K tl) := by
  constructor
  intro pins s σ H R I h
  refine thn (hl.run pins s σ H _ I h) ?_
  rintro v s1 ⟨x, H1, I1, rx, a, ex, both⟩
  rw [ex] at rx
  have ev : v = .ref a := rx
  rw [ev]
  have mine : ∀ b ∈ [s1.heap.objs.size], FpOk X pins H1 b := by
    intro b hb
    rw [List.mem_singleton.mp hb]
    exact I1.fpOk (Nat.le_refl _) (I1.hok.fresh (Nat.le_refl _))
  rcases both with ⟨⟨xs, hq⟩, q⟩ | ⟨⟨xs, hq⟩, q⟩
  · obtain ⟨its, _, p, _⟩ := I1.list hq
    apply wpAny_pyIter_list p.isList
    exact ⟨_, _, _, _, H1, rfl, I1.kept (t' := s1.toks) (fun b o e => Heap.get?_push_of_some _ e), turn_list a _, ⟨_, Heap.get?_push_size _ rfl, rfl, rfl⟩, mine, q⟩
  · obtain ⟨its, _, p, _⟩ := I1.tuple hq
    apply wpAny_pyIter_tuple (show s1.heap.IsTuple a its.toArray from p)
    exact ⟨_, _, _, _, H1, rfl, I1.kept (t' := s1.toks) (fun b o e => Heap.get?_push_of_some _ e), turn_tuple a _, ⟨_, Heap.get?_push_size _ rfl, rfl, rfl⟩, mine, q⟩
section
variable {K : PySem.W.Frag} {σ : L2.St} {B B' H : Hp} {ta te : TE} {t : TT} {ds : List Dt} {j : Nat} {D : Ends} {tu : TS} {g : TG}
def isL : Dt → Prop
  | .lst _ => True
  | _ => False
/-- the items of a list or a tuple -/
inductive Items : Dt → List Dt → Prop
  | lst (ds : List Dt) : Items (.lst ds) ds
  | tup (ds : List Dt) : Items (.tup ds) ds
theorem q_for {d : Dt} (e : Ex B H) (h : EvR te σ B d) (it : Items d ds) (Pv : Hp → Hp → Nat → L2.St → Hp → Prop) (h0 : ∀ B1 H1, New B H B1 H1 → Pv B1 H1 0 σ H1) (hx : ∀ B1 H1 i σ' H', Pv B1 H1 i σ' H' → Ex B1 H')
    (hs : ∀ B1 H1 i d v σ' H', New B H B1 H1 → ds[i]? = some d → R B1 v d → Pv B1 H1 i σ' H' → g v σ' H' fun σ2 H2 => tu { D with nx := Pv B1 H1 (i + 1), ct := Pv B1 H1 (i + 1), bk := D.nx } σ2 H2)
    (hd : ∀ B1 H1 σ' H', New B H B1 H1 → Pv B1 H1 ds.length σ' H' → D.nx σ' H') : tFor (iSeq K te) g tu D σ H := h H e _ fun v B1 H1 n rv => by
  cases it with
  | lst =>
    obtain ⟨p, vs, rfl, hp, ra⟩ := rv.lst_inv
    refine ⟨p, rfl, .inl ⟨⟨vs, sq_of (n.sub _ _ hp)⟩, for_list (K := K) (a := p) (xs := vs) (Pv B1 H1) (h0 B1 H1 n) (fun i σ' H' _ q => sq_of (hx B1 H1 i σ' H' q _ _ hp)) (fun i v σ' H' hi q => ?_) (fun σ' H' q => hd B1 H1 σ' H' n (by rw [← ra.len]; exact q))⟩⟩
    obtain ⟨d, hd', rd⟩ := ra.getV hi
    exact hs B1 H1 i d v σ' H' n hd' rd q
  | tup =>
    obtain ⟨p, vs, rfl, hp, ra⟩ := rv.tup_inv
    refine ⟨p, rfl, .inr ⟨⟨vs, st_of (n.sub _ _ hp)⟩, for_tup (K := K) (a := p) (xs := vs) (Pv B1 H1) (h0 B1 H1 n) (fun i σ' H' _ q => st_of (hx B1 H1 i σ' H' q _ _ hp)) (fun i v σ' H' hi q => ?_) (fun σ' H' q => hd B1 H1 σ' H' n (by rw [← ra.len]; exact q))⟩⟩
    obtain ⟨d, hd', rd⟩ := ra.getV hi
    exact hs B1 H1 i d v σ' H' n hd' rd q
theorem q_lc {d : Dt} {α : Type} {l : List α} {enc : α → Dt} {c : α → Bool} {f : α → Dt} {vs : List Nat} (h : EvR ta σ B d) (it : Items d (l.map enc)) (hz : l.length < 100000) (hw : ∀ x, wipe ((wipe σ vs).set j (some x)) vs = wipe σ vs)
    (ht : ∀ q v B1, q ∈ l → Ex B B1 → R B1 v (enc q) → EvC t ((wipe σ vs).set j (some v)) B1 (c q)) (he : ∀ q v B1, q ∈ l → Ex B B1 → R B1 v (enc q) → c q = true → EvR te ((wipe σ vs).set j (some v)) B1 (f q)) :
    EvR (tLc (iSeq K ta) (gName j) t te vs) σ B (.lst ((l.filter c).map f)) := fun H0 e0 Q k => h H0 e0 _ fun v B1 H1 n rv => by
  cases it with
  | lst =>
    obtain ⟨p, us, rfl, hp, ra⟩ := rv.lst_inv
    have g := ev_lc (K := K) (σ := σ) (B := B1) (ta := fun σ H Q => Q (.ref p) H) (fun H1 e Q q => q _ B1 H1 (New.refl e) (.lst hp ra)) hz hw (fun q v B2 h1 h2 h3 => ht q v B2 h1 (n.ext.trans h2) h3) (fun q v B2 h1 h2 h3 h4 => he q v B2 h1 (n.ext.trans h2) h3 h4)
    obtain ⟨a, e1, h1, h2⟩ := g H1 n.sub Q fun v B2 H2 n2 r2 => k v B2 H2 (n.trans n2) r2
    exact ⟨a, e1, .inl ⟨h1, h2⟩⟩
  | tup =>
    obtain ⟨p, us, rfl, hp, ra⟩ := rv.tup_inv
    have g := ev_lcT (K := K) (σ := σ) (B := B1) (ta := fun σ H Q => Q (.ref p) H) (fun H1 e Q q => q _ B1 H1 (New.refl e) (.tup hp ra)) hz hw (fun q v B2 h1 h2 h3 => ht q v B2 h1 (n.ext.trans h2) h3) (fun q v B2 h1 h2 h3 h4 => he q v B2 h1 (n.ext.trans h2) h3 h4)
    obtain ⟨a, e1, h1, h2⟩ := g H1 n.sub Q fun v B2 H2 n2 r2 => k v B2 H2 (n.trans n2) r2
    exact ⟨a, e1, .inr ⟨h1, h2⟩⟩
theorem q_lc1 {d : Dt} {α : Type} {l : List α} {enc : α → Dt} {f : α → Dt} {vs : List Nat} (h : EvR ta σ B d) (it : Items d (l.map enc)) (hz : l.length < 100000) (hw : ∀ x, wipe ((wipe σ vs).set j (some x)) vs = wipe σ vs)
    (he : ∀ q v B1, q ∈ l → Ex B B1 → R B1 v (enc q) → EvR te ((wipe σ vs).set j (some v)) B1 (f q)) : EvR (tLc (iSeq K ta) (gName j) tYes te vs) σ B (.lst (l.map f)) := by
  have g := q_lc (K := K) (t := tYes) (c := fun _ => true) (f := f) h it hz hw (fun _ _ _ _ _ _ => ec_yes) (fun q v B1 h1 h2 h3 _ => he q v B1 h1 h2 h3)
  rw [List.filter_eq_self.mpr (fun _ _ => rfl)] at g
  exact g
end
section
variable {K : PySem.W.Frag} {mg : Str → Option Value}
/-- a def of the text and where it stands -/
structure At (K : PySem.W.Frag) (mg : Str → Option Value) (x : Str) (st : Stmt) (f : Addr) (fd : FuncData) : Prop where
  F : Fun K x x st f fd
  at_ : mg x = some (.ref f)
theorem kb_of {x qual : Str} {st : Stmt} {f : Addr} {fd : FuncData} {ps ks : List Str} {gg : List Value → List Value → List Value} {gV : List V → List V → List V} (F : Fun K x qual st f fd)
    (h : ∀ (kV doc pm : Value) (an : Option Addr) (cdv ct : Value) (us ws : List Value), (gg us ws).length = ps.length → bindArgs (PySem.W.fnOf x qual (defArgs st) (defBody st) (defScope st) .none kV doc pm an cdv ct) ⟨us, ks.zip ws⟩ = pure (ps.zip (gg us ws)))
    (rel : ∀ {vs : List V} {us : List Value} {zs : List V} {ws : List Value}, Vals vs us → Vals zs ws → Vals (gV vs zs) (gg us ws)) : KBinds K fd ps ks gg gV := by
  obtain ⟨oc, od, kV, doc, pm, an, cdv, ct, osl, rfl, lk, hcd⟩ := F.ex
  exact ⟨fun s us ws _ hl => .of_eq (h kV doc pm an cdv ct us ws hl), rel⟩
end
end U

namespace U
open PySem L2
open Evl (Ex fresh_back sz_of sz_lt sq_of st_of rLenS rListS)

theorem set_same {α : Type} {x : α} : ∀ {l : List α} {i : Nat}, l[i]? = some x → l.set i x = l
  | [], _, h => by simp at h
  | y :: l, 0, h => by simp at h; rw [h]; rfl
  | y :: l, i + 1, h => by rw [List.set_cons_succ, set_same (by simpa using h)]
/-- a new list, in nobody's hands -/
def EvL (te : TE) (σ : L2.St) (B : Hp) (ds : List Dt) : Prop := ∀ H1, Ex B H1 → ∀ Q : VK, (∀ p vs B2 H2, New B H1 B2 H2 → Own H1 B2 H2 p vs → RA B2 vs ds → Q (.ref p) H2) → te σ H1 Q
section
variable {K : PySem.W.Frag} {σ : L2.St} {B B' H : Hp} {ta tb te tc : TE} {t u : TT} {tl tr tk : TA} {x y z d : Dt} {xs ds es : List Dt} {r r' : R2} {a b : Bool} {j : Nat} {D : Ends} {tu tw tz : TS} {i k : Int}
theorem EvL.toR (h : EvL te σ B ds) : EvR te σ B (.lst ds) := fun H1 e Q q => h H1 e Q fun p vs B2 H2 n o ra => q _ _ H2 (n.give o) (o.data ra)
theorem EvL.is (h : EvL te σ B ds) (q : ds = es) : EvL te σ B es := q ▸ h
theorem own_new {p : Addr} {vs : List V} (e : Ex B H) (hp : H p = none) : New B H B (upd H p (.lst vs)) ∧ Own H B (upd H p (.lst vs)) p vs :=
  ⟨⟨Ex.refl _, Evl.Ex.mut e (fresh_back e hp), Evl.Ex.new hp, fun _ h _ => h⟩, ⟨hp, fresh_back e hp, upd_same⟩⟩
theorem New.own {B0 H0 B1 H1 B2 H2 : Hp} {p : Addr} {vs : List V} (n : New B0 H0 B1 H1) (o : Own H1 B2 H2 p vs) : Own H0 B2 H2 p vs :=
  ⟨fresh_back n.heap o.h0, o.b, o.h⟩
theorem el_lst (h : EvRA tl σ B ds) (hl : ds.length ≤ 100000) : EvL (tLst tl) σ B ds := fun H1 e Q q =>
  h H1 e _ fun vs B2 H2 n rv => ⟨by rw [rv.len]; exact sz_of hl, fun p hp => q p vs B2 _ (n.trans (own_new n.sub hp).1) (n.own (own_new n.sub hp).2) rv⟩
theorem el_list (h : EvR te σ B (.lst ds)) : EvL (tCB (rListS K) (tCons te tNil)) σ B ds := fun H1 e Q q =>
  h H1 e _ fun v B2 H2 n rv => by
    obtain ⟨p, vs, rfl, hp, ra⟩ := rv.lst_inv
    exact ⟨p, vs, rfl, .inl (sq_of (n.sub _ _ hp)), fun l hl => q l vs B2 _ (n.trans (own_new n.sub hl).1) (n.own (own_new n.sub hl).2) ra⟩
/-- a comprehension -/
theorem el_lc {α : Type} {l : List α} {enc : α → Dt} {c : α → Bool} {f : α → Dt} {vs : List Nat} (h : EvR ta σ B d) (it : Items d (l.map enc)) (hz : l.length < 100000) (hw : ∀ x, wipe ((wipe σ vs).set j (some x)) vs = wipe σ vs)
    (ht : ∀ q v B1, q ∈ l → Ex B B1 → R B1 v (enc q) → EvC t ((wipe σ vs).set j (some v)) B1 (c q)) (he : ∀ q v B1, q ∈ l → Ex B B1 → R B1 v (enc q) → c q = true → EvR te ((wipe σ vs).set j (some v)) B1 (f q)) :
    EvL (tLc (iSeq K ta) (gName j) t te vs) σ B ((l.filter c).map f) := fun H0 e0 Q k => h H0 e0 _ fun v B1 H1 n rv => by
  have main : ∀ (J : It) (us : List V) (ra : RA B1 us (l.map enc)), ∀ q, H1 q = none → (∀ i x H', us[i]? = some x → LcI B1 H1 q (fun i => ((l.take i).filter c).map f) i H' →
      t ((wipe σ vs).set j (some x)) H' fun b H3 => if b = true then te ((wipe σ vs).set j (some x)) H3 fun y H4 => ∃ acc, H4 q = some (.lst acc) ∧ acc.length < sizeLine ∧ LcI B1 H1 q (fun i => ((l.take i).filter c).map f) (i + 1) (upd H4 q (.lst (acc ++ [y]))) else LcI B1 H1 q (fun i => ((l.take i).filter c).map f) (i + 1) H3) := by
    intro J us ra q hq i x H' hi zz
    obtain ⟨d, hd, rd⟩ := ra.getV hi
    rw [List.getElem?_map] at hd
    cases hq' : l[i]? with
    | none => rw [hq'] at hd; cases hd
    | some a =>
      rw [hq'] at hd
      cases hd
      have hm := List.mem_of_getElem? hq'
      exact lcI_turn zz (Nat.lt_of_le_of_lt (outs_len i) hz) (ht a x B1 hm n.ext rd) (fun hc => he a x B1 hm n.ext rd hc) (outs_step hq')
  have fin : ∀ (us : List V), RA B1 us (l.map enc) → ∀ q H', LcI B1 H1 q (fun i => ((l.take i).filter c).map f) us.length H' → Q (.ref q) H' := by
    intro us ra q H' zz
    have hl : us.length = l.length := by rw [ra.len, List.length_map]
    obtain ⟨B', acc, n', o, ra'⟩ := zz
    rw [hl] at ra'
    have ra' : RA B' acc (((l.take l.length).filter c).map f) := ra'
    rw [List.take_length] at ra'
    exact k q acc B' H' (n.trans n') ⟨fresh_back n.heap o.h0, o.b, o.h⟩ ra'
  cases it with
  | lst =>
    obtain ⟨p, us, rfl, hp, ra⟩ := rv.lst_inv
    refine ⟨p, rfl, .inl ⟨⟨us, sq_of (n.sub _ _ hp)⟩, fun q hq => ?_⟩⟩
    exact lc_list (xs := us) (LcI B1 H1 q fun i => ((l.take i).filter c).map f) (lcI_start n.sub hq rfl) (fun i H' _ ⟨B', acc, n', _, _⟩ => sq_of (n'.sub _ _ (n'.ext _ _ hp))) (fun i x H' hi zz => ⟨hw x, main (Itl K p) us ra q hq i x H' hi zz⟩) (fun H' zz => fin us ra q H' zz)
  | tup =>
    obtain ⟨p, us, rfl, hp, ra⟩ := rv.tup_inv
    refine ⟨p, rfl, .inr ⟨⟨us, st_of (n.sub _ _ hp)⟩, fun q hq => ?_⟩⟩
    exact lc_tup (xs := us) (LcI B1 H1 q fun i => ((l.take i).filter c).map f) (lcI_start n.sub hq rfl) (fun i H' _ ⟨B', acc, n', _, _⟩ => st_of (n'.sub _ _ (n'.ext _ _ hp))) (fun i x H' hi zz => ⟨hw x, main (Itt K p) us ra q hq i x H' hi zz⟩) (fun H' zz => fin us ra q H' zz)
theorem el_lc1 {α : Type} {l : List α} {enc : α → Dt} {f : α → Dt} {vs : List Nat} (h : EvR ta σ B d) (it : Items d (l.map enc)) (hz : l.length < 100000) (hw : ∀ x, wipe ((wipe σ vs).set j (some x)) vs = wipe σ vs)
    (he : ∀ q v B1, q ∈ l → Ex B B1 → R B1 v (enc q) → EvR te ((wipe σ vs).set j (some v)) B1 (f q)) : EvL (tLc (iSeq K ta) (gName j) tYes te vs) σ B (l.map f) := by
  have g := el_lc (K := K) (t := tYes) (c := fun _ => true) (f := f) h it hz hw (fun _ _ _ _ _ _ => ec_yes) (fun q v B1 h1 h2 h3 _ => he q v B1 h1 h2 h3)
  rw [List.filter_eq_self.mpr (fun _ _ => rfl)] at g
  exact g
/-- a promise: a new list -/
def spL (g : List Dt → List Dt → Prop) : Sp := fun vs H Q _ => ∃ B as ds, Ex B H ∧ RA B vs as ∧ g as ds ∧ ∀ p us B2 H2, New B H B2 H2 → Own H B2 H2 p us → RA B2 us ds → Q (.ref p) H2
theorem el_call {g : List Dt → List Dt → Prop} {E : XK} (h : EvRA tl σ B xs) (hg : g xs ds) : EvL (tCall (spL g) [] E tl) σ B ds := fun H1 e Q q => h H1 e _ fun vs B1 H2 n ra => by
  refine ⟨B1, xs, ds, n.sub, by rw [List.append_nil]; exact ra, hg, fun p us B2 H3 n2 o r2 => q p us B2 H3 (n.trans n2) (n.own o) r2⟩
theorem s_asgL {q : Nat} (e : Ex B H) (h : EvL te σ B ds) (k : ∀ p vs B1 H1, New B H B1 H1 → Own H B1 H1 p vs → RA B1 vs ds → D.nx (σ.set q (some (.ref p))) H1) : tAsg te (gName q) D σ H := h H e _ k
theorem s_retL (e : Ex B H) (h : EvL te σ B xs) (q : xs = ds) (k : ∀ p vs B1 H1, New B H B1 H1 → Own H B1 H1 p vs → RA B1 vs ds → D.rt (.ref p) H1) : tRet te D σ H := h H e _ fun p vs B1 H1 n o ra => k p vs B1 H1 n o (q ▸ ra)
/-- a < b < c -/
theorem ev_chain (ha : EvR ta σ B x) (hb : EvR tb σ B y) (hr : RV r x y (.bl a)) (hc : a = true → EvR tc σ B z) (hr' : a = true → RV r' y z (.bl b)) : EvR (tChain r r' ta tb tc) σ B (.bl (a && b)) := fun H1 e Q q =>
  ha H1 e _ fun v B2 H2 n rv => (hb.mono n.ext) H2 n.sub _ fun w B3 H3 n2 rw => hr B3 H3 v w n2.sub (rv.mono n2.ext) rw _ fun c B4 H4 n3 rc => by
    cases rc
    refine ⟨a, rfl, ?_⟩
    have n4 := (n.trans n2).trans n3
    cases a with
    | false => exact q _ B4 H4 n4 (.bl false)
    | true =>
      show tc σ H4 _
      exact ((hc rfl).mono n4.ext) H4 n4.sub _ fun u B5 H5 n5 ru => hr' rfl B5 H5 w u n5.sub (rw.mono (n3.ext.trans n5.ext)) ru Q fun c B6 H6 n6 rc => q c B6 H6 ((n4.trans n5).trans n6) rc
/-- false on the left -/
theorem ev_andF (h1 : EvR ta σ B (.bl a)) (h : a = false) : EvR (tAndV ta tb) σ B (.bl false) := by
  have g := ev_and (tb := tb) (b := false) h1 (fun e => by rw [h] at e; cases e)
  rw [h] at g
  exact g
/-- if c: x = e, x an int -/
theorem s_ifI {q : Nat} (e : Ex B H) (h : EvC t σ B b) (h1 : b = true → EvR te σ B (.int i)) (hx : σ[q]? = some (some (.int k))) (go : ∀ H1, Up B H H1 → D.nx (σ.set q (some (.int (if b = true then i else k)))) H1) : tIfS t (tAsg te (gName q)) tNext D σ H :=
  s_if e h (fun hb H1 u => (h1 hb) H1 u.sub _ fun v B2 H2 n rv => by
    cases rv
    have g := go H2 ⟨e, u.sub.trans n.heap, u.heap.trans n.heap⟩
    rw [if_pos hb] at g
    exact g) (fun hb H1 u => by
    have g := go H1 u
    rw [if_neg (by rw [hb]; exact Bool.false_ne_true)] at g
    have e0 : σ.set q (some (.int k)) = σ := set_same hx
    rw [e0] at g
    exact g)
/-- o[i] = e, o a list of one's own -/
theorem s_put {H0 : Hp} {p : Addr} {vs : List V} {n m : Nat} (e : Ex B H) (o : Own H0 B H p vs) (h : EvR te σ B d) (ho : σ[n]? = some (some (.ref p))) (hi : ∀ B1, Ex B B1 → EvR tb σ B1 (.int (m : Int))) (hm : m < vs.length)
    (go : ∀ v B1 H1, New B H B1 H1 → Own H0 B1 H1 p vs → R B1 v d → D.nx σ (upd H1 p (.lst (vs.set m v)))) : tAsg te (gSub (tVar n) tb rSetL) D σ H := h H e _ fun v B1 H1 n1 rv =>
  ⟨_, ho, (hi B1 n1.ext) H1 n1.sub _ fun w B2 H2 n2 rw => by
    cases rw
    have o2 := (o.step n1).step n2
    refine ⟨p, vs, m, m, rfl, rfl, o2.h, ?_, go v B2 H2 (n1.trans n2) o2 (rv.mono n2.ext)⟩
    unfold ixN
    simp only [Int.natCast_nonneg]
    first
      | (rw [if_pos (by omega)]; simp; done)
      | (simp [hm]; done)
      | (split <;> simp_all <;> omega)⟩
end
section
variable {P : Program} {w : World} {K : PySem.W.Frag} {mg : Str → Option Value} {base : Heap}
open PySem.Spec PyProof.Rows in
/-- a def by its body, whatever it promises -/
theorem fn_S {x qual : Str} {st : Stmt} {f : Addr} {fd : FuncData} {N ps : List Str} {k : Nat} {sp : Sp} (F : Fun K x qual st f fd) (S : FnScope N ps (defScope st)) (len : ∀ vs H Q E, sp vs H Q E → vs.length = ps.length)
    (body : ∀ (cdv : Value) (Γ : Around) (below : List Env) (s : Shared) (H : Hp) (vs : List V) (Q : VK) (E : XK), Γ.guards = some [] → Room k (Γ.deeper (envOfC qual (defScope st) s.heap.objs.size f cdv)) → sp vs H Q E →
      ∃ t, PSs (cxOf CX0 P w K mg base N qual (defScope st) f cdv Γ below s H E).nox (defBody st) t ∧ t { nx := fun _ H' => Q .non H', rt := Q } (start N vs) H) : FnG P w K mg base CX0 (k + 1) f fd ps sp := by
  obtain ⟨oc, od, kV, doc, pm, an, cdv, ct, osl, rfl, lk, hcd⟩ := F.ex
  refine fnG_of lk hcd S len (fun Γ below s H vs Q E hg hr h => ?_)
  obtain ⟨t, h1, h2⟩ := body cdv Γ below s H vs Q E hg hr h
  exact ⟨t, h1.nox, h2⟩
open PySem.Spec PyProof.Rows in
theorem fn_L {x qual : Str} {st : Stmt} {f : Addr} {fd : FuncData} {N ps : List Str} {k : Nat} {g : List Dt → List Dt → Prop} (F : Fun K x qual st f fd) (S : FnScope N ps (defScope st)) (len : ∀ ds d, g ds d → ds.length = ps.length)
    (body : ∀ (cdv : Value) (Γ : Around) (below : List Env) (s : Shared) (B H : Hp) (vs : List V) (as ds : List Dt) (Q : VK) (E : XK), Γ.guards = some [] → Room k (Γ.deeper (envOfC qual (defScope st) s.heap.objs.size f cdv)) →
      Ex B H → RA B vs as → g as ds → (∀ p us B2 H2, New B H B2 H2 → Own H B2 H2 p us → RA B2 us ds → Q (.ref p) H2) →
      ∃ t, PSs (cxOf CX0 P w K mg base N qual (defScope st) f cdv Γ below s H E).nox (defBody st) t ∧ t { nx := fun _ H' => Q .non H', rt := Q } (start N vs) H) : FnG P w K mg base CX0 (k + 1) f fd ps (spL g) := by
  refine fn_S F S (fun vs H Q E h => ?_) (fun cdv Γ below s H vs Q E hg hr h => ?_)
  · obtain ⟨B, as, ds, _, ra, hd, _⟩ := h
    rw [ra.len]
    exact len as ds hd
  · obtain ⟨B, as, ds, e, ra, hd, q⟩ := h
    exact body cdv Γ below s B H vs as ds Q E hg hr e ra hd q
end
theorem Own.up {H0 B H H1 : Hp} {p : Addr} {xs : List V} (o : Own H0 B H p xs) (u : Ex H H1) : Own H0 B H1 p xs := ⟨o.h0, o.b, u _ _ o.h⟩
theorem Own.ex {H0 B H : Hp} {p : Addr} {xs : List V} (e : Ex B H) (o : Own H0 B H p xs) : Ex (upd B p (.lst xs)) H := fun a u q => by
  by_cases ha : a = p
  · subst ha; rw [upd_same] at q; rw [← q]; exact o.h
  · rw [upd_ne ha] at q; exact e a u q
/-! ### data in short -/
abbrev eI (ns : List Int) : Dt := .lst (ns.map .int)
abbrev eSet (p q : List Int) : Dt := .tup [eI p, eI q]
abbrev eFr (a b : Int) : Dt := .tup [.int a, .int b]
theorem fitAll_ints {M : Nat} (hM : M ≤ 10 ^ 60) : ∀ (ns : List Int), (∀ n ∈ ns, n.natAbs < M) → fitAll (ns.map .int) = true
  | [], _ => by simp [fitAll]
  | n :: ns, h => by
    have h1 := h n List.mem_cons_self
    rw [List.map_cons, fitAll, fitAll_ints hM ns fun m hm => h m (List.mem_cons_of_mem _ hm), Dt.fit, decide_eq_true (by omega)]; rfl
theorem wtAll_ints : ∀ (ns : List Int), wtAll (ns.map .int) = ns.length
  | [] => rfl
  | n :: ns => by rw [List.map_cons, wtAll, wtAll_ints ns, Dt.wt, List.length_cons]; omega
theorem depAll_ints : ∀ (ns : List Int), depAll (ns.map .int) = 0
  | [] => rfl
  | n :: ns => by rw [List.map_cons, depAll, depAll_ints ns, Dt.dep]; rfl
theorem fit_eI {ns : List Int} (h : ∀ n ∈ ns, n.natAbs < 10 ^ 60) (hl : ns.length ≤ 1000) : Fit (eI ns) :=
  ⟨by rw [Dt.fit]; exact fitAll_ints (Nat.le_refl _) ns h, by rw [Dt.wt, wtAll_ints]; omega, by rw [Dt.dep, depAll_ints]; omega⟩
theorem fit_eSet {p q : List Int} (hp : ∀ n ∈ p, n.natAbs < 10 ^ 60) (hq : ∀ n ∈ q, n.natAbs < 10 ^ 60) (lp : p.length ≤ 1000) (lq : q.length ≤ 1000) : Fit (eSet p q) := by
  have h1 := fit_eI hp lp
  have h2 := fit_eI hq lq
  refine ⟨?_, ?_, ?_⟩
  · rw [Dt.fit, fitAll, fitAll, fitAll, h1.fit, h2.fit]; rfl
  · rw [Dt.wt, wtAll, wtAll, wtAll, Dt.wt, Dt.wt, wtAll_ints, wtAll_ints]; omega
  · rw [Dt.dep, depAll, depAll, depAll, Dt.dep, Dt.dep, depAll_ints, depAll_ints]; decide
theorem atI_ints {f : List Int} {i : Int} (h0 : 0 ≤ i) (h1 : i < f.length) : atI (f.map Dt.int) i = some (.int (f.getD i.toNat 0)) := by
  have e2 : i.toNat < f.length := by omega
  unfold atI ixN
  rw [List.length_map]
  first
    | (simp [h0, h1, e2]; done)
    | (simp [h0, h1, e2, List.getElem?_eq_getElem, List.getD]; done)
    | (split <;> simp_all [List.getElem?_eq_getElem, List.getD] <;> omega)
theorem eqv_nil {f : List Int} : PyData.eqv (eI f).py (Dt.lst []).py = decide (f = []) := by
  cases f with
  | nil => simp [Dt.py, pyAll, PyData.eqv, PyData.eqvAll]
  | cons x f => simp [Dt.py, pyAll, PyData.eqv, PyData.eqvAll]
theorem canLay_ints : ∀ (ns : List Int), PyData.canLayAll0 (pyAll (ns.map .int)) = true
  | [] => by simp [pyAll, PyData.canLayAll0]
  | n :: ns => by rw [List.map_cons, pyAll, PyData.canLayAll0, canLay_ints ns, Dt.py, PyData.canLay0]; rfl
theorem shaped_eI {ns : List Int} : SeqAt.shaped (eI ns).py = true := by
  unfold SeqAt.shaped
  rw [dep_py, Dt.dep, depAll_ints, Dt.py, PyData.canLay0, canLay_ints]
  rfl
theorem eqv_self {ns : List Int} : PyData.eqv (eI ns).py (eI ns).py = true := SeqAt.eqv_refl _ (SeqAt.canLay_of_shaped shaped_eI)
end U

namespace U
open PySem L2
open Evl (Ex fresh_back sz_of sz_lt sq_of st_of rLenS rListS)
section
variable {X : Cx} {K : PySem.W.Frag}
theorem k_seq {tg l : Expr} {tl : TE} (h : X.K = K) (hl : PE X l tl) : PI X tg l (iSeq K tl) := h ▸ pi_seq hl
theorem k_ix (h : X.K = K) : IxR X (rIx K) := h ▸ ix_seq
theorem k_eq (h : X.K = K) (hu : X.A.units + 64 < cLine) : OpR X (compareOp .Eq) (rOr rEq (rEqD K)) := h ▸ op_eqA hu
theorem k_ne (h : X.K = K) (hu : X.A.units + 64 < cLine) : OpR X (compareOp .NotEq) (rOr rNe (rNeD K)) := h ▸ op_neA hu
theorem k_len (h : X.K = K) : CallR X (.builtin "len") (rLenS K) := h ▸ c_len
theorem k_list (h : X.K = K) : CallR X (.type "list") (rListS K) := h ▸ c_list
theorem k_tuple (h : X.K = K) : CallR X (.type "tuple") (rTupleS K) := h ▸ c_tuple
theorem k_all (h : X.K = K) (hc : X.calm = true) : CallR X (.builtin "all") (rAll K) := h ▸ cr_all hc
theorem k_min (h : X.K = K) (hc : X.calm = true) : CallR X (.builtin "min") (L2.rMin K) := h ▸ cr_min hc
theorem k_isi (h : X.K = K) : CallR X (.builtin "isinstance") (rIsi K) := h ▸ call_isi
theorem k_in (h : X.K = K) : OpR X (compareOp .In) (rIn K false) := h ▸ op_in_seq
theorem k_notin (h : X.K = K) : OpR X (compareOp .NotIn) (rIn K true) := h ▸ op_notIn_seq
theorem k_slice (h : X.K = K) : SlR X (rSlL K) := h ▸ sl_list
end
section
variable {K : PySem.W.Frag} {σ : L2.St} {B B' H : Hp} {ta tb te tc : TE} {t : TT} {d0 d1 d : Dt} {b : Bool} {D : Ends} {i : Int}
/-- if c: x = e -/
theorem s_ifR {q : Nat} {v0 : V} (e : Ex B H) (h : EvC t σ B b) (h1 : b = true → EvR te σ B d1) (hx : σ[q]? = some (some v0)) (r0 : R B v0 d0) (go : ∀ v B1 H1, New B H B1 H1 → R B1 v (if b = true then d1 else d0) → D.nx (σ.set q (some v)) H1) : tIfS t (tAsg te (gName q)) tNext D σ H :=
  s_if e h (fun hb H1 u => (h1 hb) H1 u.sub _ fun v B2 H2 n rv => by
    refine go v B2 H2 (u.new.trans n) ?_
    rw [if_pos hb]
    exact rv) (fun hb H1 u => by
    have g := go v0 B H1 u.new (by rw [if_neg (by rw [hb]; exact Bool.false_ne_true)]; exact r0)
    rw [set_same hx] at g
    exact g)
/-- x[i], x a tuple whose items are not all told -/
theorem ev_ixRaw {n : Nat} {p : Addr} {vs : List V} {v : V} (h : σ[n]? = some (some (.ref p))) (hb : B p = some (.tup vs)) (hi : atI vs i = some v) (r : R B v d) : EvR (tOp (rIx K) (tVar n) (tC (.int i))) σ B d := fun H1 e Q q =>
  ⟨_, h, .inr (.inl ⟨p, vs, i, v, rfl, rfl, st_of (e _ _ hb), hi, q v B H1 (New.refl e) r⟩)⟩
theorem atI_two {d : Dt} {x : Int} (h0 : 0 ≤ x) (h1 : x < 2) : atI [d, d] x = some d := by
  have : x = 0 ∨ x = 1 := by omega
  rcases this with e | e <;> rw [e] <;> rfl
theorem atI_hd {x : Int} {xs : List Int} : atI ((x :: xs).map V.int) 0 = some (.int x) := by
  have h : ((0 : Int) < ((x :: xs).map V.int).length) := by rw [List.length_map, List.length_cons]; omega
  unfold atI ixN
  first
    | (simp; done)
    | (split <;> simp_all <;> omega)
theorem ixN_0 {α : Type} {x : α} {xs : List α} : ixN (x :: xs).length 0 = some 0 := by
  unfold ixN
  first
    | (simp; done)
    | (split <;> simp_all <;> omega)
end
end U

namespace U
open PySem L2
open Evl (Ex fresh_back sz_of sz_lt sq_of st_of rLenS rListS)
section
variable {K : PySem.W.Frag} {σ : L2.St} {B B' H : Hp} {ta tb te tc : TE} {t : TT} {x y z d d0 d1 d2 d3 d4 : Dt} {ds es : List Dt} {b : Bool} {D : Ends} {i j k l : Nat}
/-- plain values -/
def Dt.fl : Dt → Bool
  | .lst _ | .tup _ | .exc _ => false
  | _ => true
def Dt.v : Dt → V
  | .non => .non | .bl b => .bl b | .int i => .int i | .str s => .str s | _ => .non
theorem R.fl {v : V} (h : R B v d) (f : d.fl = true) : v = d.v ∧ flatV v = true := by
  cases h with
  | lst _ _ => cases f
  | tup _ _ => cases f
  | exc _ => cases f
  | _ => exact ⟨rfl, rfl⟩
theorem RA.fl : ∀ {vs : List V} {ds : List Dt}, RA B vs ds → ds.all Dt.fl = true → vs = ds.map Dt.v ∧ vs.all flatV = true
  | _, _, .nil, _ => ⟨rfl, rfl⟩
  | _, _, .cons a r, f => by
    rw [List.all_cons, Bool.and_eq_true] at f
    obtain ⟨h1, h2⟩ := R.fl a f.1
    obtain ⟨h3, h4⟩ := RA.fl r f.2
    exact ⟨by rw [List.map_cons, ← h1, ← h3], by rw [List.all_cons, h2, h4]; rfl⟩
theorem rv_in {neg : Bool} (hx : x.fl = true) (it : Items y ds) (hf : ds.all Dt.fl = true) : RV (rIn K neg) x y (.bl (if neg then !inV x.v (ds.map Dt.v) else inV x.v (ds.map Dt.v))) := fun B H1 v w e r1 r2 Q q => by
  obtain ⟨h1, h2⟩ := r1.fl hx
  cases it with
  | lst =>
    obtain ⟨p, vs, rfl, hp, ra⟩ := r2.lst_inv
    obtain ⟨h3, h4⟩ := ra.fl hf
    exact ⟨p, vs, rfl, .inl (sq_of (e _ _ hp)), h2, h4, by rw [h1, h3]; exact q _ B H1 (New.refl e) (.bl _)⟩
  | tup =>
    obtain ⟨p, vs, rfl, hp, ra⟩ := r2.tup_inv
    obtain ⟨h3, h4⟩ := ra.fl hf
    exact ⟨p, vs, rfl, .inr (st_of (e _ _ hp)), h2, h4, by rw [h1, h3]; exact q _ B H1 (New.refl e) (.bl _)⟩
theorem RA.flat : ∀ (n : Nat) {vs : List V} {ds : List Dt}, RA B vs ds → RA B (List.replicate n vs).flatten (List.replicate n ds).flatten
  | 0, _, _, _ => .nil
  | n + 1, _, _, h => by rw [List.replicate_succ, List.replicate_succ, List.flatten_cons, List.flatten_cons]; exact h.append (RA.flat n h)
theorem rv_rep {n : Int} (hn : 0 ≤ n ∧ n ≤ 1000) (hd : ds.length ≤ 10) : RV rRep (.lst ds) (.int n) (.lst (List.replicate n.toNat ds).flatten) := fun B H1 v w e r1 r2 Q q => by
  cases r2
  obtain ⟨p, vs, rfl, hp, ra⟩ := r1.lst_inv
  refine ⟨p, n, vs, rfl, rfl, e _ _ hp, by omega, by omega, ?_, fun l hl => q _ (upd B l _) _ (New.one e hl) (.lst upd_same ((ra.flat n.toNat).mono (Evl.Ex.new (fresh_back e hl))))⟩
  have h1 : vs.length * n.toNat ≤ 10 * 1000 := Nat.mul_le_mul (by rw [ra.len]; exact hd) (by omega)
  rw [sizeLine_eq]
  omega
theorem g_tup4 {v : V} {k' : L2.St → Hp → Prop} (e : Ex B H) (r : R B v (.tup [d1, d2, d3, d4])) (h : ∀ v1 v2 v3 v4, R B v1 d1 → R B v2 d2 → R B v3 d3 → R B v4 d4 → k' ((((σ.set i (some v1)).set j (some v2)).set k (some v3)).set l (some v4)) H) :
    gTup K 4 (gCons (gName i) (gCons (gName j) (gCons (gName k) (gCons (gName l) gNil)))) v σ H k' := by
  obtain ⟨p, vs, rfl, hp, ra⟩ := r.tup_inv
  cases ra with | cons r1 ra =>
  cases ra with | cons r2 ra =>
  cases ra with | cons r3 ra =>
  cases ra with | cons r4 ra =>
  cases ra
  exact ⟨p, _, rfl, st_of (e _ _ hp), rfl, _, _, rfl, _, _, rfl, _, _, rfl, _, _, rfl, rfl, h _ _ _ _ r1 r2 r3 r4⟩
theorem s_asg4 (e : Ex B H) (h : EvR te σ B (.tup [d1, d2, d3, d4])) (go : ∀ v1 v2 v3 v4 B1 H1, New B H B1 H1 → R B1 v1 d1 → R B1 v2 d2 → R B1 v3 d3 → R B1 v4 d4 → D.nx ((((σ.set i (some v1)).set j (some v2)).set k (some v3)).set l (some v4)) H1) :
    tAsg te (gTup K 4 (gCons (gName i) (gCons (gName j) (gCons (gName k) (gCons (gName l) gNil))))) D σ H := h H e _ fun v B1 H1 n rv =>
  g_tup4 (K := K) n.sub rv fun v1 v2 v3 v4 r1 r2 r3 r4 => go v1 v2 v3 v4 B1 H1 n r1 r2 r3 r4
/-- over range(n), a list of one's own -/
theorem el_lcR1 {n : Int} {f : Nat → Dt} {tl : TA} {vs : List Nat} (h : EvRA tl σ B [.int n]) (hz : 0 ≤ n ∧ n < 100000) (hw : ∀ x, wipe ((wipe σ vs).set j (some x)) vs = wipe σ vs)
    (he : ∀ (q : Nat) B1, (q : Int) < n → Ex B B1 → EvR te ((wipe σ vs).set j (some (.int (q : Int)))) B1 (f q)) : EvL (tLc (iRng1 tl) (gName j) tYes te vs) σ B ((List.range n.toNat).map f) := fun H0 e0 Q k => h H0 e0 _ fun v B1 H1 nw rv => by
  cases rv with | cons r1 rv =>
  cases r1; cases rv
  refine ⟨n, rfl, by omega, by omega, fun q hq => ?_⟩
  refine lc_range (lo := 0) (n := n.toNat) (LcI B1 H1 q fun i => (((List.range n.toNat).take i).filter fun _ => true).map f) (lcI_start nw.sub hq rfl) (fun i H' hi z => ?_) (fun H' z => ?_)
  · have e0 : (0 : Int) + (i : Int) = (i : Int) := Int.zero_add _
    rw [e0]
    have hq' : (List.range n.toNat)[i]? = some i := by rw [List.getElem?_range hi]
    exact ⟨hw _, lcI_turn z (Nat.lt_of_le_of_lt (outs_len i) (by rw [List.length_range]; omega)) ec_yes (fun _ => he i B1 (by omega) nw.ext) (outs_step hq')⟩
  · obtain ⟨B', acc, n', o, ra'⟩ := z
    have ra' : RA B' acc ((((List.range n.toNat).take n.toNat).filter fun _ => true).map f) := ra'
    rw [List.take_of_length_le (by rw [List.length_range]; omega), List.filter_eq_self.mpr (fun _ _ => rfl)] at ra'
    exact k q acc B' H' (nw.trans n') ⟨fresh_back nw.heap o.h0, o.b, o.h⟩ ra'
/-- for j in tl, the list of the data enc q, by what holds between the turns -/
theorem q_each {α : Type} {l : List α} {enc : α → Dt} {g : TG} {tu : TS} (e : Ex B H) (h : EvR te σ B d) (it : Items d (l.map enc)) (Pv : Nat → L2.St → Hp → Hp → Prop) (h0 : ∀ B1 H1, New B H B1 H1 → Pv 0 σ B1 H1)
    (hs : ∀ B1 i q v σ' B' H', l[i]? = some q → R B1 v (enc q) → Ex B1 B' → Ex B' H' → Pv i σ' B' H' → g v σ' H' fun σ2 H2 => tu { D with nx := fun σ3 H3 => ∃ B3, Ex B1 B3 ∧ Ex B3 H3 ∧ Pv (i + 1) σ3 B3 H3, ct := fun σ3 H3 => ∃ B3, Ex B1 B3 ∧ Ex B3 H3 ∧ Pv (i + 1) σ3 B3 H3, bk := D.nx } σ2 H2)
    (hd : ∀ σ' B' H', Ex B' H' → Pv l.length σ' B' H' → D.nx σ' H') : tFor (iSeq K te) g tu D σ H :=
  q_for e h it (fun B1 H1 i σ' H' => ∃ B', Ex B1 B' ∧ Ex B' H' ∧ Pv i σ' B' H') (fun B1 H1 n => ⟨B1, Evl.Ex.refl _, n.sub, h0 B1 H1 n⟩) (fun B1 H1 i σ' H' z => by
    obtain ⟨B', a, b, _⟩ := z
    exact a.trans b) (fun B1 H1 i dd v σ' H' n hi rv z => by
    obtain ⟨B', a, b, c⟩ := z
    rw [List.getElem?_map] at hi
    cases hq : l[i]? with
    | none => rw [hq] at hi; cases hi
    | some q =>
      rw [hq] at hi
      cases hi
      exact hs B1 i q v σ' B' H' hq rv a b c) (fun B1 H1 σ' H' n z => by
    obtain ⟨B', a, b, c⟩ := z
    rw [List.length_map] at c
    exact hd σ' B' H' b c)
end
def axS (b : Bool) : Str := if b = true then "x" else "y"
theorem ixN_nat {n m : Nat} (h : m < n) : ixN n (m : Int) = some m := by
  unfold ixN
  simp only [Int.natCast_nonneg]
  first
    | (rw [if_pos (by omega)]; simp; done)
    | (simp [h]; done)
    | (split <;> simp_all <;> omega)
theorem atI_nat' {α : Type} {xs : List α} {m : Nat} {v : α} (h : xs[m]? = some v) : atI xs (m : Int) = some v := by
  unfold atI
  rw [ixN_nat (List.getElem?_eq_some_iff.mp h).1]
  exact h
theorem atI_last' {α : Type} {xs : List α} {v : α} (h : xs[xs.length - 1]? = some v) : atI xs (-1) = some v := by
  have hl := (List.getElem?_eq_some_iff.mp h).1
  have e : ixN xs.length (-1) = some (xs.length - 1) := by
    unfold ixN
    first
      | (simp; omega; done)
      | (split <;> simp_all <;> omega)
  unfold atI
  rw [e]
  exact h
section
variable {K : PySem.W.Frag} {σ : L2.St} {B B' H : Hp} {te : TE} {D : Ends}
/-- o[i] = e, o a list of one's own that e may read, e an int -/
theorem s_putI {H0 : Hp} {p : Addr} {vs : List V} {n q k : Nat} {z : Int} (e : Ex B' H) (h : EvR te σ B' (.int z)) (o : Own H0 B H p vs) (ho : σ[n]? = some (some (.ref p))) (hi : σ[q]? = some (some (.int (k : Int)))) (hk : k < vs.length)
    (go : ∀ H1, Ex H H1 → D.nx σ (upd H1 p (.lst (vs.set k (.int z))))) : tAsg te (gSub (tVar n) (tVar q) rSetL) D σ H := h H e _ fun v B1 H1 n1 rv => by
  cases rv
  exact ⟨_, ho, _, hi, p, vs, k, k, rfl, rfl, n1.heap _ _ o.h, ixN_nat hk, go H1 n1.heap⟩
end
theorem RA.set {B : Hp} {v : V} {d : Dt} (r : R B v d) : ∀ {vs : List V} {ds : List Dt} (i : Nat), RA B vs ds → RA B (vs.set i v) (ds.set i d)
  | _, _, _, .nil => .nil
  | _, _, 0, .cons _ t => .cons r t
  | _, _, i + 1, .cons q t => .cons q (RA.set r i t)
/-- if c: .. without an else, a word between it and what follows -/
theorem s_if_cut {B H : Hp} {σ : L2.St} {t : TT} {tu : TS} {D : Ends} {b : Bool} (M : L2.St → Hp → Prop) (e : Ex B H) (h : EvC t σ B b) (hM : ∀ σ3 H3, M σ3 H3 → D.nx σ3 H3) (h1 : b = true → ∀ H1, Up B H H1 → ∀ D' : Ends, (∀ σ3 H3, M σ3 H3 → D'.nx σ3 H3) → tu D' σ H1)
    (h2 : b = false → ∀ H1, Up B H H1 → M σ H1) : tIfS t tu tNext D σ H := s_if e h (fun hb H1 u => h1 hb H1 u D hM) (fun hb H1 u => hM σ H1 (h2 hb H1 u))
theorem eqv_nilG (ds : List Dt) : PyData.eqv (Dt.lst ds).py (Dt.lst []).py = ds.isEmpty := by
  cases ds <;> simp [Dt.py, pyAll, PyData.eqv, PyData.eqvAll]
/-! ### (s, s', ..).index(e), the tuple written there -/
def tTupIdx (t : TA) (te : TE) : TE := fun σ H Q => t σ H fun xs H1 => xs.length ≤ sizeLine ∧ ∀ p, H1 p = none → tCons te tNil σ (upd H1 p (.tup xs)) fun vs H2 => ∃ (ys : List Str) (z : Str) (j : Nat),
  xs = ys.map V.str ∧ vs = [.str z] ∧ H2 p = some (.tup xs) ∧ ys[j]? = some z ∧ (∀ m, m < j → ys[m]? ≠ some z) ∧ Q (.int (j : Nat)) H2
open PySem.Spec PyProof.Rows in
theorem pe_tupIdx {X : Cx} {es : List Expr} {e : Expr} {x1} {p1 apos cpos : Pos} {t : TA} {te : TE} (h : PA X es t) (he : PE X e te)
    (base : attributeBase (.Tuple es x1 p1) "index" X.env (eval (.Tuple es x1 p1) X.env) = eval (.Tuple es x1 p1) X.env := by rfl)
    (few : ((backTo cpos (starEach [e] X.env)).all (fun x => !x.1) && (backToKw cpos (keywordEach [] X.env)).all (fun x => x.1.isSome) && decide ([e].length + ([] : List Keyword).length + (if ([] : List Keyword).isEmpty then 0 else 1) < 30)) = true := by rfl)
    (line : (apos.endLine == cpos.line) = true := by rfl) (one : starEach [e] X.env = (false, eval e X.env) :: starEach [] X.env := by rfl) :
    PE X (.Call (.Attribute (.Tuple es x1 p1) "index" apos) [e] [] cpos) (tTupIdx t te) := by
  constructor
  intro pins s σ H Q I hq
  refine wpAny_Call_method_late base few line rfl (wpAny_Tuple_spliced (thn (h.run p1 pins s σ H _ I hq) ?_))
  rintro us s1 ⟨xs, H1, I1, r, z, q⟩
  refine ⟨by rw [← r.length]; exact z, ?_⟩
  have hf : H1 s1.heap.objs.size = none := I1.hok.fresh (Nat.le_refl _)
  have got := Heap.get?_push_size s1.heap (o := { cls := .type "tuple", data := .seq us.toArray }) rfl
  have I2 : Inv X pins σ (upd H1 s1.heap.objs.size (.tup xs)) { s1 with heap := s1.heap.push { cls := .type "tuple", data := .seq us.toArray } } :=
    I1.laid (t' := s1.toks) (fun b u e => Heap.get?_push_of_some _ e) (Nat.le_refl _) ⟨z, us, r, ⟨_, got, rfl, _, rfl⟩⟩
  refine ⟨"tuple", "tuple.index", PySem.F.plainAttrs_tuple, PySem.F.slot_tuple_index, PySem.F.type_tuple_index, ⟨_, got, rfl⟩, fun a ea => by cases ea; exact ⟨_, got, rfl⟩, ?_⟩
  have args := (pa_cons he pa_nil one).run cpos pins _ σ _ _ I2 (q _ hf)
  rw [one] at args ⊢
  refine Calls.callWith_builtin (by rfl) (Calls.evalArgs_plain (thn args ?_))
  rintro ws s2 ⟨vs, H2, I3, r2, ys, zz, j, e1, e2, e3, e4, e5, q2⟩
  rw [e2] at r2
  exact mt_tup_index pins s2 σ H2 (.ref s1.heap.objs.size) [.str zz] _ ws Q I3 rfl r2 ⟨_, ys, zz, j, rfl, rfl, by rw [← e1]; exact SqT.of e3, e4, e5, q2⟩
theorem ev_idx {σ : L2.St} {B : Hp} {te : TE} {t : TA} {b : Bool} (h : EvRA t σ B [.str "x", .str "y"]) (he : EvR te σ B (.str (axS b))) : EvR (tTupIdx t te) σ B (.int (if b = true then 0 else 1)) := fun H1 e Q q =>
  h H1 e _ fun vs B2 H2 n ra => by
    refine ⟨by rw [ra.len]; show 2 ≤ sizeLine; decide, fun p hp => ?_⟩
    have e2 : Ex B2 (upd H2 p (.tup vs)) := n.sub.trans (Evl.Ex.new hp)
    refine (he.mono n.ext) _ e2 _ fun v B3 H3 n3 rv => ?_
    obtain ⟨h1, _⟩ := ra.fl rfl
    obtain ⟨h2, _⟩ := rv.fl rfl
    have hx : (("x" : Str) = "y") → False := by decide +kernel
    have n4 : New B H1 B3 H3 := n.trans ((New.grow e2 (Evl.Ex.new hp) n.sub).trans n3)
    cases b with
    | true => exact ⟨["x", "y"], "x", 0, h1, by rw [h2]; rfl, n3.heap _ _ upd_same, rfl, fun m hm => absurd hm (Nat.not_lt_zero _), q _ B3 H3 n4 (.int _)⟩
    | false => exact ⟨["x", "y"], "y", 1, h1, by rw [h2]; rfl, n3.heap _ _ upd_same, rfl, fun m hm z => by
        have : m = 0 := by omega
        subst this
        exact hx (Option.some.inj z), q _ B3 H3 n4 (.int _)⟩
/-! ### facts -/
structure Fa where
  ax : Bool
  i : Int
  j : Int
  l : Int
abbrev eFa (f : Fa) : Dt := .tup [.str (axS f.ax), .int f.i, .int f.j, .int f.l]
abbrev eFas (fs : List Fa) : Dt := .lst (fs.map eFa)
def Fa.n (f : Fa) (a b : Int) : Int := if f.ax = true then a else b
def FaOk (a b : Int) (f : Fa) : Prop := 0 ≤ f.i ∧ f.i < f.n a b ∧ 0 ≤ f.j ∧ f.j < f.n a b ∧ -6 ≤ f.l ∧ f.l ≤ 6
theorem fit_axS (b : Bool) : (Dt.str (axS b)).fit = true ∧ (Dt.str (axS b)).wt = 2 := by cases b <;> decide +kernel
theorem fitAll_fas {a b : Int} (ha : a ≤ 100) (hb : b ≤ 100) : ∀ (fs : List Fa), (∀ f ∈ fs, FaOk a b f) → fitAll (fs.map eFa) = true ∧ wtAll (fs.map eFa) = 6 * fs.length ∧ depAll (fs.map eFa) ≤ 1
  | [], _ => ⟨by simp [fitAll], by simp [wtAll], by simp [depAll]⟩
  | f :: fs, h => by
    obtain ⟨h1, h2, h3⟩ := fitAll_fas ha hb fs fun g hg => h g (List.mem_cons_of_mem _ hg)
    obtain ⟨i0, i1, j0, j1, l0, l1⟩ := h f List.mem_cons_self
    have hn : f.n a b ≤ 100 := by unfold Fa.n; split <;> assumption
    obtain ⟨q1, q2⟩ := fit_axS f.ax
    refine ⟨?_, ?_, ?_⟩
    · rw [List.map_cons, fitAll, h1, Dt.fit, fitAll, fitAll, fitAll, fitAll, fitAll, q1, Dt.fit, Dt.fit, Dt.fit, decide_eq_true (by omega), decide_eq_true (by omega), decide_eq_true (by omega)]; rfl
    · rw [List.map_cons, wtAll, h2, Dt.wt, wtAll, wtAll, wtAll, wtAll, wtAll, q2, Dt.wt, Dt.wt, Dt.wt, List.length_cons]; omega
    · rw [List.map_cons, depAll, Dt.dep, depAll, depAll, depAll, depAll, depAll, Dt.dep, Dt.dep, Dt.dep, Dt.dep]; omega
theorem canLay_fas : ∀ (fs : List Fa), PyData.canLayAll0 (pyAll (fs.map eFa)) = true
  | [] => by simp [pyAll, PyData.canLayAll0]
  | f :: fs => by
    have h : (Dt.str (axS f.ax)).py.canLay0 = true := by cases f.ax <;> decide +kernel
    rw [List.map_cons, pyAll, PyData.canLayAll0, canLay_fas fs, Dt.py, PyData.canLay0, pyAll, pyAll, pyAll, pyAll, pyAll, PyData.canLayAll0, h, Dt.py, Dt.py, Dt.py]
    rfl
theorem depAll_fas : ∀ (fs : List Fa), depAll (fs.map eFa) ≤ 1
  | [] => by simp [depAll]
  | f :: fs => by
    have := depAll_fas fs
    rw [List.map_cons, depAll, Dt.dep, depAll, depAll, depAll, depAll, depAll, Dt.dep, Dt.dep, Dt.dep, Dt.dep]; omega
theorem shaped_fas {fs : List Fa} : SeqAt.shaped (eFas fs).py = true := by
  have := depAll_fas fs
  unfold SeqAt.shaped
  rw [dep_py, Dt.dep, Dt.py, PyData.canLay0, canLay_fas]
  simp only [Bool.true_and, decide_eq_true_eq]
  omega
/-- facts beside settings, in one list -/
theorem fit_pair {fs : List Fa} {p q : List Int} {a b : Int} (ha : a ≤ 100) (hb : b ≤ 100) (hf : ∀ f ∈ fs, FaOk a b f) (lf : fs.length ≤ 1000) (hp : ∀ n ∈ p, n.natAbs < 10 ^ 60) (hq : ∀ n ∈ q, n.natAbs < 10 ^ 60) (lp : p.length ≤ 1000) (lq : q.length ≤ 1000) : Fit (.lst [eFas fs, eSet p q]) := by
  obtain ⟨h1, h2, h3⟩ := fitAll_fas ha hb fs hf
  have s := fit_eSet hp hq lp lq
  have s2 := s.wt
  have s3 : (eSet p q).dep = 2 := by rw [Dt.dep, depAll, depAll, depAll, Dt.dep, Dt.dep, depAll_ints, depAll_ints]; rfl
  have s4 : (eSet p q).wt = p.length + q.length + 3 := by rw [Dt.wt, wtAll, wtAll, wtAll, Dt.wt, Dt.wt, wtAll_ints, wtAll_ints]; omega
  refine ⟨?_, ?_, ?_⟩
  · rw [Dt.fit, fitAll, fitAll, fitAll, s.fit, Dt.fit, h1]; rfl
  · rw [Dt.wt, wtAll, wtAll, wtAll, s4, Dt.wt, h2]; omega
  · rw [Dt.dep, depAll, depAll, depAll, s3, Dt.dep]; omega
end U

namespace U
open PySem PySem.Spec PyProof.Rows L2
section
variable {P : Program} {w : World} {A : Around} {E : Value → Shared → Prop} {s : Shared}
abbrev set0 (w : World) : Obj := { cls := .type "set", dict := none, data := .set #[] 0 (.fresh 0 0 (!w.params.followText "set-order")) }
/-- what comes of it -/
def Made (w : World) (s : Shared) (ns : List Int) (s2 : Shared) : Prop := ∃ h' tk c, s2 = { s with heap := h', toks := tk } ∧ SetR w h' s.heap.objs.size (fun j => decide (j ∈ ns)) c ∧ ∀ b o, s.heap.get? b = some o → h'.get? b = some o
/-- its members put in -/
theorem fill_list {l : Addr} {items : Array Value} {ns : List Int} (hh : A.handled = none) (hl : s.heap.IsList l items) (hit : IntsAre items.toList ns) (hb : ns.length + 1 < scanBound) :
    codeAny (model P w) A (.builtin "set.update.loop" ⟨[.ref s.heap.objs.size, .ref (s.heap.push (set0 w)).objs.size], []⟩) (wants (fun r s2 => r = .none ∧ Made w s ns s2) E)
      { s with heap := (s.heap.push (set0 w)).push { cls := .type "list_iterator", data := .fields #[.ref l, .int 0 0] } } := by
  have hisz : items.size = ns.length := by
    have q := IntsAre.length hit
    rw [Array.length_toList] at q
    exact q
  have hlS : l < s.heap.objs.size := by
    obtain ⟨o, ho, _⟩ := hl
    exact Heap.lt_size ho
  have hS : (s.heap.push (set0 w)).get? s.heap.objs.size = some (set0 w) := Heap.get?_push_size _ rfl
  have hz1 : (s.heap.push (set0 w)).objs.size = s.heap.objs.size + 1 := Heap.size_push ..
  have hl1 : (s.heap.push (set0 w)).IsList l items := hl.push _
  have hneI : l ≠ (s.heap.push (set0 w)).objs.size := by rw [hz1]; exact Nat.ne_of_lt (Nat.lt_succ_of_lt hlS)
  have hSf : s.heap.objs.size ∉ [(s.heap.push (set0 w)).objs.size, l] := by
    rw [hz1]; simp only [List.mem_cons, List.mem_singleton, List.not_mem_nil, or_false, not_or]
    exact ⟨Nat.ne_of_lt (Nat.lt_succ_self _), Nat.ne_of_gt hlS⟩
  have hval : ∀ (i : Nat) (v : Value), items[i]? = some v → ∃ k t, ns[i]? = some k ∧ v = .int k t := fun i v hv => by
    have hi : i < ns.length := by rw [← hisz]; exact (Array.getElem?_eq_some_iff.mp hv).1
    obtain ⟨t, e⟩ := IntsAre.int_at hit i v (by rw [Array.getElem?_toList]; exact hv)
    refine ⟨ns[i], t, List.getElem?_eq_getElem hi, ?_⟩
    rw [e, List.getD_eq_getElem?_getD, List.getElem?_eq_getElem hi] <;> rfl
  refine set_update_ints ((Walks.list (A := A.in1) (by simp [hh]) _ l hneI items).toS) s.heap.objs.size hSf ns hisz hb hval (items.size - 0) 0 _ (by omega) (Nat.zero_le _)
    ⟨⟨_, Heap.get?_push_size _ rfl, rfl, rfl⟩, (hl1.push _)⟩ ⟨0, Nat.le_refl 0, setR_new_at (Heap.get?_push_of_some _ hS)⟩ fun s' c' hm hc' hS' => ?_
  obtain ⟨h', g2, d', tk', os'⟩ := s'
  have eg : g2 = s.gens := hm.gens
  have ed : d' = s.drawn := hm.drawn
  have eo : os' = s.os := hm.os
  subst eg; subst ed; subst eo
  refine ⟨rfl, h', tk', c', rfl, hS', fun b o e => ?_⟩
  have hb0 : b < s.heap.objs.size := Heap.lt_size e
  exact hm.heap b o (by rw [hz1]; simp only [List.mem_cons, List.mem_singleton, List.not_mem_nil, or_false, not_or]; exact ⟨Nat.ne_of_lt hb0, Nat.ne_of_lt (Nat.lt_succ_of_lt hb0)⟩) (Heap.get?_push_of_some _ (Heap.get?_push_of_some _ e))
set_option maxHeartbeats 3200000 in
theorem call_set_listI {l : Addr} {items : Array Value} (ns : List Int) {Q : Value → Shared → Prop} (hh : A.handled = none) (hl : s.heap.IsList l items) (hit : IntsAre items.toList ns) (hb : ns.length + 1 < scanBound)
    (h : ∀ s2, Made w s ns s2 → Q (.ref s.heap.objs.size) s2) : wpAny (model P w) A (call (.type "set") [.ref l]) Q E s := by
  obtain ⟨c, tl, hmro⟩ := F.called_set.mro
  have hmade := F.called_set.made
  have hsub := F.called_set.sub
  refine wpAny_call (codeAny_of_tree ?_)
  refine wpAny_pure ⟨Code.quiet_builtin _ (by decide +kernel), codeAny_builtin F.entry_type_call ?_⟩
  rw [Around.under_plain (weight_type_call_type "set" [.ref l] []) rfl]
  have h1 := F.called_set.notType
  have h2 := F.called_set.canCreate
  have hct := F.typeCall_set_1 (.ref l)
  repeat (any_goals (first | assumption | wp_step))
  refine codeAny_mono (code_set_led1 (.ref l) (E := E) (Q₁ := fun obj s₁ => obj = .ref s.heap.objs.size ∧ s₁ = { s with heap := s.heap.push (set0 w) }) ⟨rfl, rfl⟩) fun r s₁ hr => ?_
  cases r with
  | error e => exact hr
  | ok fl =>
    cases fl with
    | ret obj =>
      obtain ⟨rfl, rfl⟩ := hr
      have hT : Shared.TypeIs { s with heap := s.heap.push (set0 w) } (.ref s.heap.objs.size) "set" := ⟨_, Heap.get?_push_size _ rfl, rfl⟩
      have hli := F.called_set.init.lookup
      have hbi := F.called_set.init.bind (.ref s.heap.objs.size)
      repeat (any_goals (first | assumption | wp_step))
      refine codeAny_mono (codeAny_call_builtin (R := wants (fun r s₂ => r = .none ∧ Made w s ns s₂) E) F.called_set.init.plain F.entry_set_init (check_set_init_1 hT ?_)) fun r₂ s₂ hr₂ => ?_
      · have hl0 := hl
        obtain ⟨ol, hol, hcl, nl, hdl⟩ := hl
        obtain ⟨ocls, odict, odata, oslots⟩ := ol
        simp only at hcl hdl
        subst hcl; subst hdl
        have hol' := Heap.get?_push_of_some (set0 w) hol
        have hsls := F.sub_list_set
        have hslf := F.sub_list_frozenset
        have hne : (Value.type "list" == Value.type "dict") = false := by decide
        unfold Builtin.«set.__init__» noKeywords Builtin.Frozenset.updateFrom
        generalize hPI : pyIter = PI
        wp_walk
        subst hPI
        refine wpAny_pyIter_list (hl0.push _) ?_
        refine wpAny_bind (wpAny_runValue ?_)
        refine codeAny_mono (fill_list (E := E) (by simp [hh]) hl0 hit hb) fun r3 s3 hr3 => ?_
        cases r3 with
        | error e => exact hr3
        | ok fl3 =>
          cases fl3 with
          | ret r =>
            obtain ⟨rfl, m3⟩ := hr3
            show wpAny _ _ _ _ _ _
            refine wpAny_pure ?_
            show wpAny _ _ (ret Value.none) _ _ _
            exact wpAny_pure ⟨rfl, m3⟩
          | _ => exact hr3.elim
      · cases r₂ with
        | error e => exact hr₂
        | ok fl₂ =>
          cases fl₂ with
          | ret r =>
            obtain ⟨rfl, m2⟩ := hr₂
            repeat (any_goals (first | assumption | wp_step))
            exact h _ m2
          | _ => exact hr₂.elim
    | _ => exact hr.elim
end
end U

namespace U
/-- f is what closing for w makes of the values ns -/
def IsClo (w : Int) (ns : List Int) (f : Int → Int) : Prop :=
  (∀ m ∈ ns, (∀ x ∈ ns, m ≤ x) → f m = 0) ∧ ∀ a ∈ ns, ∀ b ∈ ns, a < b → (∀ c ∈ ns, c ≤ a ∨ b ≤ c) → f b = f a + min (b - a) (w + 1)
/-- the next lower one -/
def pre (ns : List Int) (v : Int) : Option Int := if ns.filter (fun x => decide (x < v)) = [] then none else some (-minL ((ns.filter fun x => decide (x < v)).map (- ·)))
theorem pre_none {ns : List Int} {v : Int} (h : pre ns v = none) : ∀ x ∈ ns, v ≤ x := fun x hx => by
  unfold pre at h
  split at h
  next e =>
    have := List.filter_eq_nil_iff.mp e x hx
    simp at this
    exact this
  · cases h
theorem pre_some {ns : List Int} {v a : Int} (h : pre ns v = some a) : a ∈ ns ∧ a < v ∧ ∀ c ∈ ns, c ≤ a ∨ v ≤ c := by
  unfold pre at h
  split at h
  · cases h
  next e =>
    cases h
    have hn : ((ns.filter fun x => decide (x < v)).map (- ·)) ≠ [] := fun z => e (List.map_eq_nil_iff.mp z)
    obtain ⟨y, hy, ey⟩ := List.mem_map.mp (minL_mem hn)
    have hy2 := List.mem_filter.mp hy
    have e2 : -minL ((ns.filter fun x => decide (x < v)).map (- ·)) = y := by rw [← ey]; omega
    rw [e2]
    refine ⟨hy2.1, by simpa using hy2.2, fun c hc => ?_⟩
    by_cases hv : c < v
    · left
      have := minL_le (List.mem_map_of_mem (f := (- ·)) (List.mem_filter.mpr ⟨hc, by simpa using hv⟩) : -c ∈ ((ns.filter fun x => decide (x < v)).map (- ·)))
      omega
    · right; omega
theorem pre_is {ns : List Int} {a v : Int} (ha : a ∈ ns) (h : a < v) (k : ∀ c ∈ ns, c ≤ a ∨ v ≤ c) : pre ns v = some a := by
  cases e : pre ns v with
  | none => have := pre_none e a ha; omega
  | some b =>
    obtain ⟨h1, h2, h3⟩ := pre_some e
    have := k b h1
    have := h3 a ha
    rw [show b = a by omega]
def cl (w : Int) (ns : List Int) : Nat → Int → Int
  | 0, _ => 0
  | n + 1, v => match pre ns v with
    | none => 0
    | some a => cl w ns n a + min (v - a) (w + 1)
theorem cl_fuel {w : Int} {ns : List Int} : ∀ (n m : Nat) (v : Int), v ∈ ns → (v - minL ns).toNat ≤ n → (v - minL ns).toNat ≤ m → cl w ns n v = cl w ns m v := by
  have hz : ∀ (m : Nat) (v : Int), v ∈ ns → (v - minL ns).toNat = 0 → cl w ns m v = 0 := fun m v hv h => by
    cases m with
    | zero => rfl
    | succ m =>
      unfold cl
      cases e : pre ns v with
      | none => rfl
      | some a =>
        obtain ⟨h1, h2, _⟩ := pre_some e
        have := minL_le h1
        omega
  intro n
  induction n with
  | zero => intro m v hv h1 h2; rw [hz 0 v hv (by omega), hz m v hv (by omega)]
  | succ n ih =>
    intro m v hv h1 h2
    cases m with
    | zero => rw [hz 0 v hv (by omega), hz _ v hv (by omega)]
    | succ m =>
      unfold cl
      cases e : pre ns v with
      | none => rfl
      | some a =>
        obtain ⟨g1, g2, _⟩ := pre_some e
        have := minL_le g1
        show cl w ns n a + _ = cl w ns m a + _
        rw [ih m a g1 (by omega) (by omega)]
def clo (w : Int) (ns : List Int) (v : Int) : Int := cl w ns (v - minL ns).toNat v
theorem clo_is (w : Int) (ns : List Int) : IsClo w ns (clo w ns) := by
  constructor
  · intro m hm h
    unfold clo
    have : (m - minL ns).toNat = 0 := by
      have := h _ (minL_mem (List.ne_nil_of_mem hm))
      omega
    rw [this]; rfl
  · intro a ha b hb h k
    have h1 := minL_le ha
    obtain ⟨n, hn⟩ : ∃ n, (b - minL ns).toNat = n + 1 := ⟨(b - minL ns).toNat - 1, by omega⟩
    have e : cl w ns (n + 1) b = cl w ns n a + min (b - a) (w + 1) := by
      show (match pre ns b with | none => (0 : Int) | some a => cl w ns n a + min (b - a) (w + 1)) = _
      rw [pre_is ha h k]
    show cl w ns _ b = cl w ns _ a + _
    rw [hn, e, cl_fuel n _ a ha (by omega) (Nat.le_refl _)]
theorem clo_uniq {w : Int} {ns : List Int} {f g : Int → Int} (hf : IsClo w ns f) (hg : IsClo w ns g) : ∀ (n : Nat) (v : Int), v ∈ ns → (v - minL ns).toNat ≤ n → f v = g v := by
  intro n
  induction n with
  | zero =>
    intro v hv h
    have k : ∀ x ∈ ns, v ≤ x := fun x hx => by have := minL_le hx; omega
    rw [hf.1 v hv k, hg.1 v hv k]
  | succ n ih =>
    intro v hv h
    cases e : pre ns v with
    | none => rw [hf.1 v hv (pre_none e), hg.1 v hv (pre_none e)]
    | some a =>
      obtain ⟨g1, g2, g3⟩ := pre_some e
      have := minL_le g1
      rw [hf.2 a g1 v hv g2 g3, hg.2 a g1 v hv g2 g3, ih a g1 (by omega)]
theorem clo_mono {w : Int} {ns : List Int} {f : Int → Int} (hf : IsClo w ns f) (hw : 0 ≤ w) : ∀ (n : Nat) (a b : Int), a ∈ ns → b ∈ ns → a < b → (b - minL ns).toNat ≤ n → f a < f b := by
  intro n
  induction n with
  | zero => intro a b ha hb h k; have := minL_le ha; omega
  | succ n ih =>
    intro a b ha hb h k
    cases e : pre ns b with
    | none => have := pre_none e a ha; omega
    | some c =>
      obtain ⟨g1, g2, g3⟩ := pre_some e
      have := minL_le g1
      have e1 := hf.2 c g1 b hb g2 g3
      have q := g3 a ha
      by_cases z : a = c
      · subst z; omega
      · have := ih a c ha g1 (by omega) (by omega)
        omega
theorem clo_range {w : Int} {ns : List Int} {f : Int → Int} (hf : IsClo w ns f) (hw : 0 ≤ w) : ∀ (n : Nat) (v : Int), v ∈ ns → (v - minL ns).toNat ≤ n → 0 ≤ f v ∧ f v ≤ v - minL ns := by
  intro n
  induction n with
  | zero =>
    intro v hv h
    have k : ∀ x ∈ ns, v ≤ x := fun x hx => by have := minL_le hx; omega
    have := minL_le hv
    rw [hf.1 v hv k]
    omega
  | succ n ih =>
    intro v hv h
    have := minL_le hv
    cases e : pre ns v with
    | none => rw [hf.1 v hv (pre_none e)]; omega
    | some a =>
      obtain ⟨g1, g2, g3⟩ := pre_some e
      have := minL_le g1
      have := ih a g1 (by omega)
      rw [hf.2 a g1 v hv g2 g3]
      omega
def cloR (w : Int) (ns : List Int) : List Int := ns.map (clo w ns)
theorem cloR_of {w : Int} {ns : List Int} {f : Int → Int} (hf : IsClo w ns f) : ns.map f = cloR w ns := List.map_congr_left fun v hv => clo_uniq hf (clo_is w ns) _ v hv (Nat.le_refl _)
theorem cloR_len (w : Int) (ns : List Int) : (cloR w ns).length = ns.length := by unfold cloR; rw [List.length_map]
theorem cloR_cloR {w w' : Int} {ns : List Int} (hw : 0 ≤ w) (h : w ≤ w') : cloR w' (cloR w ns) = cloR w ns := by
  have hf := clo_is w ns
  have mono : ∀ a b, a ∈ ns → b ∈ ns → clo w ns a < clo w ns b → a < b := fun a b ha hb q => by
    rcases Int.lt_trichotomy a b with z | z | z
    · exact z
    · subst z; omega
    · have := clo_mono hf hw _ b a hb ha z (Nat.le_refl _); omega
  have up : ∀ a b, a ∈ ns → b ∈ ns → a ≤ b → clo w ns a ≤ clo w ns b := fun a b ha hb q => by
    by_cases z : a = b
    · subst z; exact Int.le_refl _
    · have := clo_mono hf hw _ a b ha hb (by omega) (Nat.le_refl _); omega
  have k : IsClo w' (cloR w ns) id := by
    constructor
    · intro m hm h
      obtain ⟨v, hv, rfl⟩ := List.mem_map.mp hm
      have h1 := clo_range hf hw _ v hv (Nat.le_refl _)
      have h2 := h _ (List.mem_map_of_mem (minL_mem (List.ne_nil_of_mem hv)))
      have h3 : clo w ns (minL ns) = 0 := hf.1 _ (minL_mem (List.ne_nil_of_mem hv)) fun x hx => minL_le hx
      show clo w ns v = 0
      omega
    · intro a' ha b' hb hab hc
      obtain ⟨a, ha0, rfl⟩ := List.mem_map.mp ha
      have ha := ha0
      obtain ⟨b, hb0, rfl⟩ := List.mem_map.mp hb
      have hb := hb0
      have hl := mono a b ha hb hab
      have e := hf.2 a ha b hb hl fun c hc' => by
        rcases hc _ (List.mem_map_of_mem hc') with z | z
        · left
          by_cases q : c ≤ a
          · exact q
          · have := clo_mono hf hw _ a c ha hc' (by omega) (Nat.le_refl _); omega
        · right
          by_cases q : b ≤ c
          · exact q
          · have := clo_mono hf hw _ c b hc' hb (by omega) (Nat.le_refl _); omega
      show clo w ns b = clo w ns a + min (clo w ns b - clo w ns a) (w' + 1)
      omega
  rw [← cloR_of k, List.map_id]
theorem cloR_shift {w : Int} {ns : List Int} {k : Int} : cloR w (ns.map (· + k)) = cloR w ns := by
  have hf := clo_is w ns
  have q : IsClo w (ns.map (· + k)) (fun v => clo w ns (v - k)) := by
    constructor
    · intro m hm h
      obtain ⟨v, hv, rfl⟩ := List.mem_map.mp hm
      show clo w ns (v + k - k) = 0
      rw [Int.add_sub_cancel]
      exact hf.1 v hv fun x hx => by have := h _ (List.mem_map_of_mem hx); omega
    · intro a' ha b' hb hab hc
      obtain ⟨a, ha0, rfl⟩ := List.mem_map.mp ha
      have ha := ha0
      obtain ⟨b, hb0, rfl⟩ := List.mem_map.mp hb
      have hb := hb0
      show clo w ns (b + k - k) = clo w ns (a + k - k) + min (b + k - (a + k)) (w + 1)
      rw [Int.add_sub_cancel, Int.add_sub_cancel, hf.2 a ha b hb (by omega) fun c hc' => by have := hc _ (List.mem_map_of_mem hc'); omega]
      congr 2
      omega
  rw [← cloR_of q, List.map_map]
  exact List.map_congr_left fun v _ => by show clo w ns (v + k - k) = _; rw [Int.add_sub_cancel]
/-- the next one of an ascending list of the values -/
theorem clo_next {w : Int} {ns o : List Int} (hw : 0 ≤ w) (hm : ∀ x, x ∈ o ↔ x ∈ ns) (hs : o.Pairwise (· ≤ ·)) {i : Nat} {b c : Int} (hb : o[i]? = some b) (hc : o[i + 1]? = some c) : clo w ns c = clo w ns b + min (c - b) (w + 1) := by
  have at_ : ∀ {j k : Nat} {x y : Int}, o[j]? = some x → o[k]? = some y → j ≤ k → x ≤ y := fun {j k x y} hx hy h => by
    obtain ⟨h1, rfl⟩ := List.getElem?_eq_some_iff.mp hx
    obtain ⟨h2, rfl⟩ := List.getElem?_eq_some_iff.mp hy
    rcases Nat.lt_or_eq_of_le h with z | z
    · exact List.pairwise_iff_getElem.mp hs j k h1 h2 z
    · subst z; exact Int.le_refl _
  have hbc := at_ hb hc (by omega)
  have hbm := (hm b).mp (List.mem_of_getElem? hb)
  have hcm := (hm c).mp (List.mem_of_getElem? hc)
  by_cases z : b = c
  · subst z; omega
  · refine (clo_is w ns).2 b hbm c hcm (by omega) fun x hx => ?_
    obtain ⟨j, hj⟩ := List.mem_iff_getElem?.mp ((hm x).mpr hx)
    rcases Nat.lt_or_ge i j with q | q
    · exact .inr (at_ hc hj (by omega))
    · exact .inl (at_ hj hb (by omega))
theorem clo_first {w : Int} {ns o : List Int} (hm : ∀ x, x ∈ o ↔ x ∈ ns) (hs : o.Pairwise (· ≤ ·)) {b : Int} (hb : o[0]? = some b) : clo w ns b = 0 := by
  refine (clo_is w ns).1 b ((hm b).mp (List.mem_of_getElem? hb)) fun x hx => ?_
  obtain ⟨j, hj⟩ := List.mem_iff_getElem?.mp ((hm x).mpr hx)
  obtain ⟨h1, rfl⟩ := List.getElem?_eq_some_iff.mp hb
  obtain ⟨h2, rfl⟩ := List.getElem?_eq_some_iff.mp hj
  rcases Nat.eq_zero_or_pos j with z | z
  · subst z; exact Int.le_refl _
  · exact List.pairwise_iff_getElem.mp hs 0 j h1 h2 z
end U

namespace U
open PySem L2
open Evl (Ex fresh_back sz_of sz_lt sq_of st_of rLenS rListS)
section
variable {K : PySem.W.Frag} {σ : L2.St} {B B' H : Hp} {ta tb te tc tk tv : TE} {t : TT} {x y z d : Dt} {ds es : List Dt} {b : Bool} {D : Ends} {i j k l n : Nat} {ns ms : List Int} {tu : TS} {g : TG}
theorem R.eI_inv {v : V} (h : R B v (eI ns)) : ∃ p, v = .ref p ∧ B p = some (.lst (ns.map V.int)) := by
  obtain ⟨p, vs, rfl, hp, ra⟩ := h.lst_inv
  exact ⟨p, rfl, by rw [← ra.ints_inv]; exact hp⟩
theorem nodup_len : ∀ {ms ns : List Int}, ms.Nodup → (∀ x ∈ ms, x ∈ ns) → ms.length ≤ ns.length
  | [], _, _, _ => Nat.zero_le _
  | m :: ms, ns, nd, h => by
    have hm := h m List.mem_cons_self
    have nd2 := List.nodup_cons.mp nd
    have := nodup_len (ms := ms) (ns := ns.erase m) nd2.2 fun x hx => (List.mem_erase_of_ne (fun z => by subst z; exact nd2.1 hx)).mpr (h x (List.mem_cons_of_mem _ hx))
    have e := List.length_erase_of_mem hm
    have p := List.length_pos_of_mem hm
    rw [List.length_cons]
    omega
/-- q = sorted(e) -/
theorem s_sortedI {q : Nat} (e : Ex B H) (h : EvR ta σ B (eI ns)) (k : ∀ o v B1 H1, o.Perm ns → o.Pairwise (· ≤ ·) → New B H B1 H1 → R B1 v (eI o) → D.nx (σ.set q (some v)) H1) : tAsg (tCB (rSortedI K) (tCons ta tNil)) (gName q) D σ H :=
  h H e _ fun v B1 H1 n rv => by
    obtain ⟨p, rfl, hp⟩ := rv.eI_inv
    exact ⟨p, ns, rfl, sq_of (n.sub _ _ hp), fun o q hm hs hq => k o _ _ _ hm hs (n.trans (New.one n.sub hq)) (.lst upd_same (RA.ints o))⟩
/-- set(e) -/
def rSetL (w : World) (K : PySem.W.Frag) : List V → Hp → VK → Prop := fun vs H Q => ∃ (p : Addr) (ns : List Int), vs = [.ref p] ∧ SqL K H p (ns.map V.int) ∧ ns.length ≤ 1000 ∧
  ∀ (q : Addr) (ms : List Int), ms.Nodup → (∀ k, k ∈ ms ↔ k ∈ ns) → H q = none → Q (.ref q) (upd H q (SetO w q (fun j => decide (j ∈ ns)) ms.length))
theorem cr_setL {X : Cx} (hc : X.calm = true) : CallR X (.type "set") (rSetL X.w X.K) := by
  intro pins s σ H vs us Q I r h
  obtain ⟨p, ns, rfl, hs, hl, q⟩ := h
  obtain ⟨its, rv, pl, hz⟩ := I.list hs
  rw [Vals.ref1 r]
  refine call_set_listI (E := X.xe) ns (I.ok.hd hc) pl.isList (ints_of_vals (by simpa using rv)) (by unfold scanBound; omega) fun s2 m => ?_
  obtain ⟨h', tk, c, rfl, R1, kp⟩ := m
  have hn : H s.heap.objs.size = none := I.hok.fresh (Nat.le_refl _)
  have R2 := R1
  obtain ⟨o, es, ep, t, ho, hex, hdt, g, nd, hm, hb, hf, hc2, hr, hl2⟩ := R2
  have hcl : (es.toList.map keyOf).length = c := by rw [List.length_map, Array.length_toList]; exact hc2
  rw [← hcl] at R1
  exact ⟨.ref s.heap.objs.size, _, I.laid (t' := tk) kp (Nat.le_refl _) (setO_new R1), rfl, q _ _ nd (fun k => by rw [← hm k, decide_eq_true_eq]) hn⟩
theorem k_setL {X : Cx} {w : World} (h : X.K = K) (hw : X.w = w) (hc : X.calm = true) : CallR X (.type "set") (rSetL w K) := h ▸ hw ▸ cr_setL hc
theorem k_sortedSet {X : Cx} {w : World} (hw : X.w = w) (hc : X.calm = true) : CallR X (.builtin "sorted") (rSortedSet w) := hw ▸ cr_sortedSet hc
/-- q = sorted(set(e)) -/
theorem s_sortedS {q : Nat} {w : World} (e : Ex B H) (h : EvR ta σ B (eI ns)) (hl : ns.length < 64) (k : ∀ o v B1 H1, (∀ x, x ∈ o ↔ x ∈ ns) → o.Pairwise (· < ·) → New B H B1 H1 → R B1 v (eI o) → D.nx (σ.set q (some v)) H1) :
    tAsg (tCB (rSortedSet w) (tCons (tCB (rSetL w K) (tCons ta tNil)) tNil)) (gName q) D σ H :=
  h H e _ fun v B1 H1 n rv => by
    obtain ⟨p, rfl, hp⟩ := rv.eI_inv
    refine ⟨p, ns, rfl, sq_of (n.sub _ _ hp), by omega, fun q ms nd hm hq => ⟨q, _, _, rfl, upd_same, ?_, fun o p2 hs ho hlen hp2 => ?_⟩⟩
    · have := nodup_len nd fun x hx => (hm x).mp hx
      omega
    · have n1 : New B1 H1 B1 (upd H1 q (SetO w q (fun j => decide (j ∈ ns)) ms.length)) := New.grow (n.sub.trans (Ex.new hq)) (Ex.new hq) n.sub
      exact k o _ _ _ (fun x => by rw [ho x, decide_eq_true_eq]) hs (n.trans (n1.trans (New.one n1.sub hp2))) (.lst upd_same (RA.ints o))
/-- e[1:] -/
theorem cut1 : cutV (ns.map V.int) (some 1) none = (ns.drop 1).map V.int := by
  have e1 : HT.sIx (ns.map V.int).length 0 (some 1) = min 1 ns.length := by rw [List.length_map]; exact HT.sIx_nat _ _ 1
  have e2 : HT.sIx (ns.map V.int).length (ns.map V.int).length none = ns.length := by rw [HT.sIx_none, List.length_map]
  unfold cutV
  rw [e1, e2, List.take_of_length_le (by rw [List.length_drop, List.length_map]; omega)]
  cases ns with
  | nil => rfl
  | cons n ns => rw [show min 1 (n :: ns).length = 1 by rw [List.length_cons]; omega]; rfl
theorem ev_sl1 (h : EvR ta σ B (eI ns)) : EvR (tSl (rSlL K) ta (tPart (tC (.int 1))) tNoPart) σ B (eI (ns.drop 1)) := fun H1 e Q q =>
  h H1 e _ fun v B1 H2 n rv => by
    obtain ⟨p, rfl, hp⟩ := rv.eI_inv
    refine ⟨1, rfl, p, _, rfl, sq_of (n.sub _ _ hp), fun p2 hp2 => ?_⟩
    rw [cut1]
    exact q _ _ _ (n.trans (New.one n.sub hp2)) (.lst upd_same (RA.ints _))
/-- over zip of two lists of ints, the second one no longer -/
theorem s_zip (e : Ex B H) (ha : EvR ta σ B (eI ns)) (hb : EvR tb σ B (eI ms)) (hl : ms.length ≤ ns.length) (Pv : Hp → Hp → Nat → L2.St → Hp → Prop) (h0 : ∀ B1 H1, New B H B1 H1 → Pv B1 H1 0 σ H1) (hx : ∀ B1 H1 i σ' H', Pv B1 H1 i σ' H' → Ex B1 H')
    (hs : ∀ B1 H1 i x y T σ' H', New B H B1 H1 → ns[i]? = some x → ms[i]? = some y → Pv B1 H1 i σ' H' → H' T = none → g (.ref T) σ' (upd H' T (.tup [.int x, .int y])) fun σ2 H2 => tu { D with nx := Pv B1 H1 (i + 1), ct := Pv B1 H1 (i + 1), bk := D.nx } σ2 H2)
    (hd : ∀ B1 H1 σ' H', New B H B1 H1 → Pv B1 H1 ms.length σ' H' → D.nx σ' H') : tFor (RZ.iZipA K (tCons ta (tCons tb tNil))) g tu D σ H := ha H e _ fun v B1 H1 n rv => (hb.mono n.ext) H1 n.sub _ fun w B2 H2 n2 rw => by
  obtain ⟨p, rfl, hp⟩ := rv.eI_inv
  obtain ⟨q, rfl, hq⟩ := rw.eI_inv
  have hp2 := n2.ext _ _ hp
  have n3 := n.trans n2
  refine ⟨p, q, _, _, rfl, .inl ⟨sq_of (n3.sub _ _ hp2), sq_of (n3.sub _ _ hq), fun i m σ H => m = ms.length - i ∧ i ≤ ms.length ∧ Pv B2 H2 i σ H, ⟨ms.length, rfl, Nat.zero_le _, h0 B2 H2 n3⟩, ?_⟩⟩
  rintro i m σ' H' ⟨rfl, hi, pv⟩
  have e' := hx _ _ _ _ _ pv
  have qx : SqL K H' p (ns.map V.int) := sq_of (e' _ _ hp2)
  have qy : SqL K H' q (ms.map V.int) := sq_of (e' _ _ hq)
  by_cases hlt : i < ms.length
  · have hlt2 : i < ns.length := by omega
    have hx1 : (ns.map V.int)[i]? = some (.int ns[i]) := by rw [List.getElem?_map, List.getElem?_eq_getElem hlt2]; rfl
    have hy1 : (ms.map V.int)[i]? = some (.int ms[i]) := by rw [List.getElem?_map, List.getElem?_eq_getElem hlt]; rfl
    refine .inr ⟨⟨_, _, _, _, qx, qy, hx1, hy1⟩, Pv B2 H2 (i + 1), fun σ' H' p' => ⟨ms.length - (i + 1), by omega, rfl, hlt, p'⟩, fun v H'' y => ?_⟩
    obtain ⟨T, x', y', rfl, hT, rfl, f1, f2⟩ := y
    have e1 := (f1 _ qx).symm.trans hx1
    have e2 := (f2 _ qy).symm.trans hy1
    cases e1; cases e2
    exact hs B2 H2 i _ _ T σ' H' n3 (List.getElem?_eq_getElem hlt2) (List.getElem?_eq_getElem hlt) pv hT
  · have : i = ms.length := by omega
    subst this
    exact .inl ⟨⟨_, _, qx, qy, Or.inr (by rw [List.length_map]; exact Nat.le_refl _)⟩, hd _ _ _ _ n3 pv⟩
theorem g_tup2 {k' : L2.St → Hp → Prop} {a b : V} {T : Addr} (h : k' ((σ.set i (some a)).set j (some b)) (upd H T (.tup [a, b]))) : gTup K 2 (gCons (gName i) (gCons (gName j) gNil)) (.ref T) σ (upd H T (.tup [a, b])) k' :=
  ⟨T, _, rfl, st_of upd_same, rfl, _, _, rfl, _, _, rfl, rfl, h⟩
/-- a dict of one's own -/
structure OwnK (H0 B H : Hp) (p : Addr) (kvs : List (Key × V)) : Prop where
  h0 : H0 p = none
  b : B p = none
  h : H p = some (.dK kvs)
theorem New.giveK {B0 H0 B H : Hp} {p : Addr} {kvs : List (Key × V)} (n : New B0 H0 B H) (o : OwnK H0 B H p kvs) : New B0 H0 (upd B p (.dK kvs)) H := by
  refine ⟨n.ext.trans (Ex.new o.b), fun q u h => ?_, n.heap, fun q h1 h2 => ?_⟩
  · by_cases hq : q = p
    · subst hq; rw [upd_same] at h; cases h; exact o.h
    · rw [upd_ne hq] at h; exact n.sub q u h
  · rw [upd_ne (fun z => by subst z; exact h2 o.h0)]; exact n.fresh q h1 h2
/-- q = {a: b} -/
theorem s_disp {q : Nat} {a c : Int} (e : Ex B H) (hk : EvR tk σ B (.int a)) (hv : EvR tv σ B (.int c)) (k : ∀ p B1 H1, New B H B1 H1 → OwnK H B1 H1 p [(.inl a, .int c)] → D.nx (σ.set q (some (.ref p))) H1) : tAsg (tDisp [(tk, tv)]) (gName q) D σ H := fun p hp => by
  have hb := fresh_back e hp
  have e1 : Ex B (upd H p (.dK [])) := e.trans (Ex.new hp)
  refine hk _ e1 _ fun v B1 H1 n1 r1 => (hv.mono n1.ext) H1 n1.sub _ fun w B2 H2 n2 r2 => ?_
  cases r1; cases r2
  have n3 := n1.trans n2
  have b2 := n3.fresh p hb (by rw [upd_same]; simp)
  have h2 := n3.heap p _ upd_same
  refine ⟨h2, [(.inl a, .int c)], rfl, by simp, k p B2 _ ⟨n3.ext, Evl.Ex.mut n3.sub b2, ?_, fun x z1 z2 => n3.fresh x z1 fun z3 => ?_⟩ ⟨hp, b2, upd_same⟩⟩
  · exact Evl.Ex.mut ((Ex.new hp).trans n3.heap) hp
  · by_cases hx : x = p
    · subst hx; exact z2 hp
    · rw [upd_ne hx] at z3; exact z2 z3
/-- q[e], q a dict that is known -/
theorem ev_dget {p : Addr} {kvs : List (Key × V)} {a c : Int} (ho : σ[n]? = some (some (.ref p))) (hp : B p = some (.dK kvs)) (h : EvR te σ B (.int a)) (hv : valV kvs (.inl a) = some (.int c)) : EvR (tDGet (tVar n) te) σ B (.int c) := fun H1 e Q q =>
  ⟨_, ho, h H1 e _ fun v B2 H2 n2 r => by
    cases r
    exact ⟨p, _, rfl, by rw [← hv]; exact DGet.k (k := .inl a) (n2.sub _ _ (n2.ext _ _ hp)), q _ B2 H2 n2 (.int c)⟩⟩
/-- q[e] = f -/
theorem s_dput {p : Addr} {kvs : List (Key × V)} {a c : Int} {H0 : Hp} (e : Ex B H) (o : OwnK H0 B H p kvs) (ho : σ[n]? = some (some (.ref p))) (hv : EvR tv σ (upd B p (.dK kvs)) (.int c)) (hk : ∀ B1, Ex B B1 → EvR tk σ B1 (.int a)) (hl : kvs.length ≤ 1000)
    (k : ∀ H1, Ex B H1 → Ex H0 H → Ex H0 H1 → OwnK H0 B H1 p (putK kvs (.inl a) (.int c)) → D.nx σ H1) (h0 : Ex H0 H) : sDPut (tVar n) tk tv D σ H := by
  have eB : Ex (upd B p (.dK kvs)) H := fun q u h => by
    by_cases hq : q = p
    · subst hq; rw [upd_same] at h; cases h; exact o.h
    · rw [upd_ne hq] at h; exact e q u h
  have eb0 : Ex B (upd B p (.dK kvs)) := Ex.new o.b
  refine hv H eB _ fun v B1 H1 n1 r1 => ⟨_, ho, (hk B1 (eb0.trans n1.ext)) H1 n1.sub _ fun w B2 H2 n2 r2 => ?_⟩
  cases r1; cases r2
  have n3 := n1.trans n2
  have h2 := n3.heap _ _ o.h
  refine ⟨p, _, rfl, DPut.k (k := .inl a) h2 (sz_lt (by omega)), k _ (Evl.Ex.mut (e.trans n3.heap) o.b) h0 (Evl.Ex.mut (h0.trans n3.heap) o.h0) ⟨o.h0, o.b, upd_same⟩⟩
end
end U
namespace U
open PySem L2
section
variable {K : PySem.W.Frag}
theorem k_sortedI {X : Cx} (h : X.K = K) : CallR X (.builtin "sorted") (rSortedI K) := h ▸ cr_sortedI
theorem k_zip {X : Cx} {e e2 : Expr} {ta : TA} {p pos tpos : Pos} {elts : List Expr} {kk : Nat} (h : X.K = K) (hg : Gl X "zip") (hm : X.mg "zip" = none) (ha : PA X [e, e2] ta)
    (hs : starEach [e, e2] X.env = (false, eval e X.env) :: starEach [e2] X.env := by rfl) (hpl : (backTo pos (starEach [e2] X.env)).any (·.1) = false := by rfl) :
    PI X (.Tuple elts kk tpos) (.Call (.Name "zip" p) [e, e2] [] pos) (RZ.iZipA K ta) := h ▸ RZ.pi_zipA hg hm ha hs hpl
theorem k_index {X : Cx} (h : X.K = K) : MtR X "list.index" (rIndex K) := h ▸ mt_index
theorem unit1 {a b : Nat} (h : a + 64 < b) : a + 1 < b := Nat.lt_of_le_of_lt (Nat.add_le_add_left (by decide) _) h
end
end U

namespace U
open PySem L2
open Evl (Ex fresh_back sz_of sz_lt sq_of st_of rLenS rListS)
section
variable {K : PySem.W.Frag} {σ : L2.St} {B B' H : Hp} {te : TE} {tl : TA} {D : Ends} {i j n : Nat} {ns ms : List Int} {tu : TS}
theorem s_appI {H0 : Hp} {p : Addr} {a : Int} (e : Ex B H) (o : Own H0 B H p (ns.map V.int)) (hv : σ[n]? = some (some (.ref p))) (h : EvR te σ (upd B p (.lst (ns.map V.int))) (.int a)) (hz : ns.length < 100000) (h0 : Ex H0 H)
    (k : ∀ H1, Ex B H1 → Ex H0 H1 → Own H0 B H1 p ((ns ++ [a]).map V.int) → D.nx σ H1) : tDrop (tBM K "list" rAppend (tVar n) (tCons te tNil)) D σ H :=
  ⟨_, hv, .inl ⟨rfl, _, .inl (.inl o.h)⟩, h H (o.ex e) _ fun v B1 H1 nw rv => by
    cases rv
    refine ⟨p, _, .int a, rfl, rfl, nw.heap _ _ o.h, sz_lt (by rw [List.length_map]; exact hz), k _ (Evl.Ex.mut (e.trans nw.heap) o.b) (Evl.Ex.mut (h0.trans nw.heap) o.h0) ⟨o.h0, o.b, ?_⟩⟩
    rw [upd_same, List.map_append]; rfl⟩
theorem ev_lix {a : Int} {v : V} (hv : σ[n]? = some (some v)) (r : R B v (eI ns)) (h : EvR te σ B (.int a)) (hj : ns[j]? = some a) (hm : ∀ m, m < j → ns[m]? ≠ some a) : EvR (tBM K "list" (rIndex K) (tVar n) (tCons te tNil)) σ B (.int (j : Nat)) := fun H1 e Q q => by
  obtain ⟨p, rfl, hp⟩ := r.eI_inv
  refine ⟨_, hv, .inl ⟨rfl, _, .inl (.inl (e _ _ hp))⟩, h H1 e _ fun v B2 H2 n2 r2 => ?_⟩
  cases r2
  refine ⟨p, _, .int a, j, .int a, rfl, rfl, sq_of (n2.heap _ _ (e _ _ hp)), rfl, by simp [flatV], by rw [List.getElem?_map, hj]; rfl, by simp [eqV], fun m z hmj hz => ?_, q _ B2 H2 n2 (.int _)⟩
  rw [List.getElem?_map] at hz
  cases hx : ns[m]? with
  | none => rw [hx] at hz; cases hz
  | some y =>
    rw [hx] at hz; cases hz
    have : y ≠ a := fun z => hm m hmj (z ▸ hx)
    simp [eqV, this]
/-- over range(1, n) -/
theorem s_for1 {m : Nat} (e : Ex B H) (h : EvRA tl σ B [.int 1, .int (m : Int)]) (hn : m ≤ 1000000) (Pv : Nat → L2.St → Hp → Prop) (h0 : ∀ H1, Up B H H1 → Pv 0 σ H1)
    (hs : ∀ (i : Nat) σ' H', i + 1 < m → Pv i σ' H' → tu { D with nx := Pv (i + 1), ct := Pv (i + 1), bk := D.nx } (σ'.set j (some (.int ((i + 1 : Nat) : Int)))) H') (hd : ∀ σ' H', Pv (m - 1) σ' H' → D.nx σ' H') :
    tFor (iRng2 tl) (gName j) tu D σ H := h H e _ fun vs B1 H1 nw ra => by
  cases ra with | cons r1 ra =>
  cases ra with | cons r2 ra =>
  cases r1; cases r2; cases ra
  have em : ((m : Int) - 1).toNat = m - 1 := by omega
  refine ⟨1, (m : Int), rfl, ⟨by omega, by omega, by omega, by omega⟩, ?_⟩
  rw [em]
  refine for_range (lo := 1) (n := m - 1) Pv (h0 H1 ⟨e, e.trans nw.heap, nw.heap⟩) (fun i σ' H' hi q => ?_) hd
  have e0 : (1 : Int) + (i : Int) = ((i + 1 : Nat) : Int) := by omega
  rw [e0]
  exact hs i σ' H' (by omega) q
end
section
theorem k_bm {X : Cx} {K : PySem.W.Frag} (hK : X.K = K) {o e : Expr} {es : List Expr} {to : TE} {t : TA} {name : Str} {apos cpos : Pos} {T id : String} {r : V → List V → Hp → VK → Prop} (pa : PlainAttrs T) (slot : Slot T name id) (hty : typeOf (.builtin id) = pure (.type "method_descriptor")) (hm : MtR X id r) (ho : PE X o to) (ha : PA X (e :: es) t)
    (hbase : attributeBase o name X.env (eval o X.env) = eval o X.env := by rfl)
    (hfew : ((backTo cpos (starEach (e :: es) X.env)).all (fun x => !x.1) && (backToKw cpos (keywordEach [] X.env)).all (fun x => x.1.isSome)
      && decide ((e :: es).length + ([] : List Keyword).length + (if ([] : List Keyword).isEmpty then 0 else 1) < 30)) = true := by rfl)
    (hline : (apos.endLine == cpos.line) = true := by rfl) (hs : starEach (e :: es) X.env = (false, eval e X.env) :: starEach es X.env := by rfl) (hplain : (backTo cpos (starEach es X.env)).any (·.1) = false := by rfl) :
    PE X (.Call (.Attribute o name apos) (e :: es) [] cpos) (tBM K T r to t) := hK ▸ pe_bm pa slot hty hm ho ha hbase hfew hline hs hplain
end
end U

namespace U
open PySem L2
open Evl (Ex fresh_back sz_of sz_lt sq_of st_of rLenS rListS)
/-- J goes through the data ds, which stand in B1 -/
def Loop (J : It) (B1 : Hp) (ds : List Dt) : Prop := ∀ (S : V → Hp → (Hp → Prop) → Prop) (Fin : Hp → Prop) (Pv : Nat → Hp → Prop) (H4 : Hp), Ex B1 H4 → Pv 0 H4 →
  (∀ i d x H', Ex B1 H' → ds[i]? = some d → R B1 x d → Pv i H' → S x H' fun H2 => Ex B1 H2 ∧ Pv (i + 1) H2) → (∀ H', Ex B1 H' → Pv ds.length H' → Fin H') →
  ∃ W : Nat → Nat → Hp → Prop, (∃ m, W 0 m H4) ∧ ∀ j k H, W j k H → (J.stop j H ∧ Fin H) ∨ (J.go j H ∧ ∃ Nx : Hp → Prop, (∀ H', Nx H' → ∃ k', k' < k ∧ W (j + 1) k' H') ∧ ∀ x H', J.yld j H x H' → S x H' Nx)
def Goes (wi : TI) (σ : L2.St) (B : Hp) (ds : List Dt) : Prop := ∀ (H : Hp), Ex B H → ∀ Z : It → Hp → Prop, (∀ J B1 H1, New B H B1 H1 → Loop J B1 ds → Z J H1) → wi σ H Z
section
variable {K : PySem.W.Frag} {σ : L2.St} {B B' H : Hp} {ta te : TE} {tl : TA} {tt1 : TT} {wi wi1 : TI} {d : Dt} {ds es : List Dt} {j j1 : Nat}
theorem loop_of {J : It} {B1 : Hp} {us : List V} (ra : RA B1 us ds) (hstop : ∀ H', Ex B1 H' → J.stop us.length H') (hgo : ∀ H' i, Ex B1 H' → i < us.length → J.go i H') (hy : ∀ i H' x H2, i < us.length → Ex B1 H' → J.yld i H' x H2 → H2 = H' ∧ us[i]? = some x) : Loop J B1 ds := fun S Fin Pv H4 e4 h0 hs hd => by
  have hl := ra.len
  refine ⟨fun i m H' => m = us.length - i ∧ i ≤ us.length ∧ Ex B1 H' ∧ Pv i H', ⟨us.length, rfl, Nat.zero_le _, e4, h0⟩, ?_⟩
  rintro i m H' ⟨rfl, hi, e1, pv⟩
  by_cases hlt : i < us.length
  · refine .inr ⟨hgo H' i e1 hlt, fun H2 => Ex B1 H2 ∧ Pv (i + 1) H2, fun H2 z => ⟨us.length - (i + 1), by omega, rfl, hlt, z⟩, fun x H2 y => ?_⟩
    obtain ⟨ee, y2⟩ := hy i _ _ _ hlt e1 y
    subst ee
    obtain ⟨dd, hd', rd⟩ := ra.getV y2
    exact hs i dd x _ e1 hd' rd pv
  · have : i = us.length := by omega
    subst this
    exact .inl ⟨hstop _ e1, hd _ e1 (by rw [← hl]; exact pv)⟩
theorem goes_seq (h : EvR ta σ B d) (it : Items d ds) : Goes (iSeq K ta) σ B ds := fun H e Z z => h H e _ fun v B1 H1 n rv => by
  cases it with
  | lst =>
    obtain ⟨p, us, rfl, hp, ra⟩ := rv.lst_inv
    have q : ∀ H', Ex B1 H' → SqL K H' p us := fun H' e => sq_of (e _ _ hp)
    refine ⟨p, rfl, .inl ⟨⟨us, q _ n.sub⟩, z _ B1 H1 n (loop_of ra (fun H' e => ⟨us, q _ e, Nat.le_refl _⟩) (fun H' i e hi => ⟨us, us[i], q _ e, List.getElem?_eq_getElem hi⟩) fun i H' x H2 _ e y => ⟨y.1, y.2 us (q _ e)⟩)⟩⟩
  | tup =>
    obtain ⟨p, us, rfl, hp, ra⟩ := rv.tup_inv
    have q : ∀ H', Ex B1 H' → SqT K H' p us := fun H' e => st_of (e _ _ hp)
    refine ⟨p, rfl, .inr ⟨⟨us, q _ n.sub⟩, z _ B1 H1 n (loop_of ra (fun H' e => ⟨us, q _ e, Nat.le_refl _⟩) (fun H' i e hi => ⟨us, us[i], q _ e, List.getElem?_eq_getElem hi⟩) fun i H' x H2 _ e y => ⟨y.1, y.2 us (q _ e)⟩)⟩⟩
theorem ra_rng : ∀ (l : List Nat), RA B (l.map fun i => V.int (i : Nat)) (l.map fun i => Dt.int (i : Nat))
  | [] => .nil
  | _ :: l => .cons (.int _) (ra_rng l)
theorem goes_rng {n : Int} (h : EvRA tl σ B [.int n]) (hn : 0 ≤ n ∧ n < 1000000) : Goes (iRng1 tl) σ B ((List.range n.toNat).map fun i => Dt.int (i : Nat)) := fun H e Z z => h H e _ fun v B1 H1 nw ra => by
  cases ra with | cons r1 ra =>
  cases r1; cases ra
  have hl : ((List.range n.toNat).map fun i => V.int (i : Nat)).length = n.toNat := by rw [List.length_map, List.length_range]
  refine ⟨n, rfl, by omega, by omega, z _ B1 H1 nw (loop_of (us := (List.range n.toNat).map fun i => V.int (i : Nat)) (ra_rng _) (fun H' e => ?_) (fun H' i e hi => ?_) fun i H' x H2 hi e y => ?_)⟩
  · exact Nat.le_of_eq hl.symm
  · rw [hl] at hi; exact hi
  · obtain ⟨y1, y2⟩ := y
    rw [hl] at hi
    refine ⟨y1, ?_⟩
    rw [y2, List.getElem?_map, List.getElem?_range hi, Int.zero_add]
    rfl
/-- a comprehension with two fors -/
theorem el_lc2 {α β : Type} {l : List α} {enc : α → Dt} {ms : α → List β} {enc1 : β → Dt} {c : α → β → Bool} {f : α → β → Dt} {vs vs1 : List Nat} (ho : Goes wi σ B (l.map enc)) (hz : (l.flatMap fun a => ((ms a).filter (c a)).map (f a)).length < 100000)
    (hw : ∀ x, wipe ((wipe σ vs).set j (some x)) vs = wipe σ vs) (hw1 : ∀ x y, wipe ((wipe ((wipe σ vs).set j (some x)) vs1).set j1 (some y)) vs1 = wipe ((wipe σ vs).set j (some x)) vs1)
    (hi : ∀ a v B1, a ∈ l → Ex B B1 → R B1 v (enc a) → Goes wi1 ((wipe σ vs).set j (some v)) B1 ((ms a).map enc1))
    (ht : ∀ a v b u B1, a ∈ l → b ∈ ms a → Ex B B1 → R B1 v (enc a) → R B1 u (enc1 b) → EvC tt1 ((wipe ((wipe σ vs).set j (some v)) vs1).set j1 (some u)) B1 (c a b))
    (he : ∀ a v b u B1, a ∈ l → b ∈ ms a → Ex B B1 → R B1 v (enc a) → R B1 u (enc1 b) → c a b = true → EvR te ((wipe ((wipe σ vs).set j (some v)) vs1).set j1 (some u)) B1 (f a b)) :
    EvL (tLc2 wi (gName j) tYes wi1 (gName j1) tt1 te vs vs1) σ B (l.flatMap fun a => ((ms a).filter (c a)).map (f a)) := fun H0 e0 Q k => ho H0 e0 _ fun J B1 H1 n lp D hD => by
  have acc0 : ∀ i, ((l.take i).flatMap fun a => ((ms a).filter (c a)).map (f a)).length ≤ (l.flatMap fun a => ((ms a).filter (c a)).map (f a)).length := fun i => by
    conv => rhs; rw [← List.take_append_drop i l, List.flatMap_append, List.length_append]
    omega
  refine lp (fun x H' N => gName j x (wipe σ vs) H' fun σ2 H2 => wipe σ2 vs = wipe σ vs ∧ tYes σ2 H2 fun b H3 => if b = true then _ else N H3) _ (fun i H' => ∃ B' acc, New B1 H1 B' H' ∧ Own H1 B' H' D acc ∧ RA B' acc ((l.take i).flatMap fun a => ((ms a).filter (c a)).map (f a))) (upd H1 D (.lst [])) (n.sub.trans (Evl.Ex.new hD)) ?_ ?_ ?_
  · exact ⟨B1, [], ⟨Evl.Ex.refl _, Evl.Ex.mut n.sub (fresh_back n.sub hD), Evl.Ex.new hD, fun _ h _ => h⟩, ⟨hD, fresh_back n.sub hD, upd_same⟩, .nil⟩
  · rintro i d x H' e1 hd rx ⟨B', acc, n', o, ra⟩
    rw [List.getElem?_map] at hd
    cases hq : l[i]? with
    | none => rw [hq] at hd; cases hd
    | some a =>
    rw [hq] at hd; cases hd
    have hm := List.mem_of_getElem? hq
    refine ⟨hw x, ?_⟩
    have bD : B1 D = none := fresh_back n.sub hD
    refine (hi a x B' hm (n.ext.trans n'.ext) (rx.mono n'.ext)) H' n'.sub _ fun J1 B2 H2 n2 lp1 => ?_
    have b2D : B2 D = none := n2.fresh D o.b (by rw [o.h]; simp)
    refine lp1 (fun y H'' N => gName j1 y (wipe ((wipe σ vs).set j (some x)) vs1) H'' fun σ3 H5 => wipe σ3 vs1 = wipe ((wipe σ vs).set j (some x)) vs1 ∧ tt1 σ3 H5 fun b H6 => if b = true then te σ3 H6 fun y H7 => ∃ acc, H7 D = some (.lst acc) ∧ acc.length < sizeLine ∧ N (upd H7 D (.lst (acc ++ [y]))) else N H6) _
      (fun i2 H'' => ∃ B3 acc, Ex B2 B3 ∧ New B1 H1 B3 H'' ∧ Own H1 B3 H'' D acc ∧ RA B3 acc (((l.take i).flatMap fun a => ((ms a).filter (c a)).map (f a)) ++ (((ms a).take i2).filter (c a)).map (f a))) H2 n2.sub ?_ ?_ ?_
    · exact ⟨B2, acc, Evl.Ex.refl _, n'.trans n2, o.step n2, by rw [List.take_zero]; show RA B2 acc (_ ++ []); rw [List.append_nil]; exact ra.mono n2.ext⟩
    · rintro i2 d2 u H'' e2 hd2 ru ⟨B3, acc3, e23, n3, o3, ra3⟩
      rw [List.getElem?_map] at hd2
      cases hq2 : (ms a)[i2]? with
      | none => rw [hq2] at hd2; cases hd2
      | some b =>
      rw [hq2] at hd2; cases hd2
      have hmb := List.mem_of_getElem? hq2
      refine ⟨hw1 x u, ?_⟩
      refine ht a x b u B3 hm hmb (n.ext.trans n3.ext) (rx.mono n3.ext) (ru.mono e23) H'' n3.sub _ fun H6 e6 => ?_
      have n36 : New B3 H'' B3 H6 := New.grow (n3.sub.trans e6) e6 n3.sub
      have hs := outs_step (c := c a) (f := f a) hq2
      have len : (((l.take i).flatMap fun a => ((ms a).filter (c a)).map (f a)) ++ (((ms a).take i2).filter (c a)).map (f a)).length < 100000 := by
        have h1 := acc0 (i + 1)
        rw [List.take_add_one, hq, List.flatMap_append, List.length_append] at h1
        have h2 := ((List.take_sublist i2 (ms a)).filter (c a)).length_le
        have h3 : ((some a).toList.flatMap fun a => ((ms a).filter (c a)).map (f a)).length = ((ms a).filter (c a)).length := by simp
        rw [h3] at h1
        rw [List.length_append, List.length_map]
        omega
      cases hc : c a b with
      | true =>
        rw [hc, if_pos rfl] at hs
        show te _ H6 _
        refine he a x b u B3 hm hmb (n.ext.trans n3.ext) (rx.mono n3.ext) (ru.mono e23) hc H6 n36.sub _ fun w B4 H7 n4 rw' => ?_
        have o4 := (o3.step n36).step n4
        refine ⟨acc3, o4.h, sz_lt (by rw [ra3.len]; exact len), Evl.Ex.mut (e23.trans (n4.ext.trans n4.sub)) b2D, B4, acc3 ++ [w], e23.trans n4.ext, (((n3.trans n36).trans n4).put o4), o4.put, ?_⟩
        rw [hs, ← List.append_assoc]
        exact (ra3.mono n4.ext).append (RA.one rw')
      | false =>
        rw [hc, if_neg (by simp)] at hs
        exact ⟨e23.trans n36.sub, B3, acc3, e23, n3.trans n36, o3.step n36, by rw [hs]; exact ra3⟩
    · rintro H'' e2 ⟨B3, acc3, e23, n3, o3, ra3⟩
      refine ⟨n3.ext.trans n3.sub, B3, acc3, n3, o3, ?_⟩
      rw [List.length_map, List.take_length] at ra3
      rw [List.take_add_one, hq, List.flatMap_append]
      have h3 : ((some a).toList.flatMap fun a => ((ms a).filter (c a)).map (f a)) = ((ms a).filter (c a)).map (f a) := by simp
      rw [h3]
      exact ra3
  · rintro H' e1 ⟨B', acc, n', o, ra⟩
    rw [List.length_map, List.take_length] at ra
    exact k D acc B' H' (n.trans n') ⟨fresh_back n.heap o.h0, o.b, o.h⟩ ra
end
end U

namespace U
open PySem L2
open Evl (Ex fresh_back sz_of sz_lt sq_of st_of rLenS rListS)
section
variable {K : PySem.W.Frag} {σ : L2.St} {B B' H : Hp} {te : TE} {tl : TA} {ds es : List Dt} {ns : List Int}
theorem ea_star (h : EvR te σ B (.lst ds)) (hr : EvRA tl σ B es) : EvRA (StX.tStar K te tl) σ B (ds ++ es) := fun H1 e Q q => h H1 e _ fun v B2 H2 n rv => by
  obtain ⟨p, us, rfl, hp, ra⟩ := rv.lst_inv
  refine ⟨p, us, rfl, .inr (sq_of (n.sub _ _ hp)), (hr.mono n.ext) H2 n.sub _ fun ws B3 H3 n3 rb => q _ B3 H3 (n.trans n3) ((ra.mono n3.ext).append rb)⟩
theorem ea_starT (h : EvR te σ B (.tup ds)) (hr : EvRA tl σ B es) : EvRA (StX.tStar K te tl) σ B (ds ++ es) := fun H1 e Q q => h H1 e _ fun v B2 H2 n rv => by
  obtain ⟨p, us, rfl, hp, ra⟩ := rv.tup_inv
  refine ⟨p, us, rfl, .inl (st_of (n.sub _ _ hp)), (hr.mono n.ext) H2 n.sub _ fun ws B3 H3 n3 rb => q _ B3 H3 (n.trans n3) ((ra.mono n3.ext).append rb)⟩
theorem rl_sum : RL (rSum K) [eI ns] (.int ns.sum) := fun B H1 vs e ra Q q => by
  cases ra with | cons r1 r2 =>
  cases r2
  obtain ⟨p, rfl, hp⟩ := r1.eI_inv
  exact ⟨p, ns, rfl, sq_of (e _ _ hp), q _ B H1 (New.refl e) (.int _)⟩
theorem k_star {X : Cx} {e : Expr} {es : List Expr} {p : Pos} {te : TE} {t : TA} (h : X.K = K) (he : PE X e te) (hr : PA X es t) (hs : starEach (.Starred e p :: es) X.env = (true, eval e X.env) :: starEach es X.env := by rfl) : PA X (.Starred e p :: es) (StX.tStar K te t) := h ▸ StX.pa_star he hr hs
theorem k_sum {X : Cx} (h : X.K = K) (hc : X.calm = true) : CallR X (.builtin "sum") (rSum K) := h ▸ cr_sum hc
end
section
variable {B : Hp} {d : Dt}
def isN : Dt → Bool
  | .non => true
  | _ => false
theorem R.isN_eq {v : V} (r : R B v d) : decide (v = .non) = isN d := by
  cases r <;> simp [isN]
theorem rv_isN : RV (fun x y H Q => y = .non ∧ Q (.bl (decide (x = .non))) H) d .non (.bl (isN d)) := fun B H1 v w e r1 r2 Q q => by
  cases r2
  refine ⟨rfl, ?_⟩
  rw [r1.isN_eq]
  exact q _ B H1 (New.refl e) (.bl _)
theorem rv_notN : RV (fun x y H Q => y = .non ∧ Q (.bl (!decide (x = .non))) H) d .non (.bl (!isN d)) := fun B H1 v w e r1 r2 Q q => by
  cases r2
  refine ⟨rfl, ?_⟩
  rw [r1.isN_eq]
  exact q _ B H1 (New.refl e) (.bl _)
end
section
variable {K : PySem.W.Frag} {σ : L2.St} {B : Hp} {te : TE} {ns : List Int}
theorem ev_lenSet (h : EvR te σ B (eI ns)) (hn : ns.Nodup) (hl : ns.length ≤ 4000) : EvR (RZ.tLenSetI K te) σ B (.int (ns.length : Nat)) := fun H1 e Q q => h H1 e _ fun v B2 H2 n r => by
  obtain ⟨p, rfl, hp⟩ := r.eI_inv
  exact ⟨p, ns, rfl, sq_of (n.sub _ _ hp), hn, hl, q _ B2 H2 n (.int _)⟩
theorem k_lenSet {X : Cx} {a : Expr} {ta : TE} {p p2 q pos : Pos} (h : X.K = K) (hg : Gl X "len") (hm : X.mg "len" = none) (hg2 : Gl X "set") (hm2 : X.mg "set" = none) (ha : PE X a ta) (hc : X.calm = true := by rfl)
    (na : starEach [a] X.env = (false, eval a X.env) :: starEach [] X.env := by rfl) : PE X (.Call (.Name "len" p) [.Call (.Name "set" p2) [a] [] q] [] pos) (RZ.tLenSetI K ta) := h ▸ RZ.pe_lenSetI hg hm hg2 hm2 ha hc na
end
end U

namespace U
open PySem L2
open Evl (Ex fresh_back sz_of sz_lt sq_of st_of rLenS rListS)
def rIns : V → List V → Hp → VK → Prop := fun x vs H Q => ∃ (l : Addr) (xs : List V) (i : Int) (y : V), x = .ref l ∧ vs = [.int i, y] ∧ H l = some (.lst xs) ∧ xs.length < sizeLine ∧ 0 ≤ i ∧ i < 2 ^ 63 ∧ Q .non (upd H l (.lst (xs.take i.toNat ++ [y] ++ xs.drop i.toNat)))
theorem mt_ins {X : Cx} : MtR X "list.insert" rIns := mt_insert
section
variable {K : PySem.W.Frag} {σ : L2.St} {B B' H : Hp} {ta tb te : TE} {tl tl2 : TA} {d : Dt} {ds : List Dt} {D : Ends} {i j n t : Nat} {ns ms : List Int}
theorem rv_eqB {a b : Bool} : RV rEq (.bl a) (.bl b) (.bl (decide (a = b))) := fun B H1 v w e r1 r2 Q q => by
  cases r1; cases r2
  exact ⟨rfl, q _ B H1 (New.refl e) (by have : decide (V.bl a = V.bl b) = decide (a = b) := by simp
                                        rw [this]; exact .bl _)⟩
theorem rv_neB {a b : Bool} : RV rNe (.bl a) (.bl b) (.bl (!decide (a = b))) := fun B H1 v w e r1 r2 Q q => by
  cases r1; cases r2
  exact ⟨rfl, q _ B H1 (New.refl e) (by have : decide (V.bl a = V.bl b) = decide (a = b) := by simp
                                        rw [this]; exact .bl _)⟩
theorem cutTo (vs : List V) (m : Int) (h : 0 ≤ m) : cutV vs none (some m) = vs.take m.toNat := by
  obtain ⟨k, rfl⟩ := Int.eq_ofNat_of_zero_le h
  have e1 : HT.sIx vs.length 0 none = 0 := HT.sIx_none _ _
  have e2 : HT.sIx vs.length vs.length (some (k : Int)) = min k vs.length := HT.sIx_nat _ _ k
  unfold cutV
  rw [e1]
  show ((vs.drop 0).take (HT.sIx vs.length vs.length (some (k : Int)) - 0)) = _
  rw [e2, List.drop_zero, Nat.sub_zero, Int.toNat_natCast]
  by_cases h : k ≤ vs.length
  · rw [Nat.min_eq_left h]
  · rw [Nat.min_eq_right (by omega), List.take_of_length_le (Nat.le_refl _), List.take_of_length_le (by omega)]
theorem RA.take {B : Hp} : ∀ {vs : List V} {ds : List Dt} (k : Nat), RA B vs ds → RA B (vs.take k) (ds.take k)
  | _, _, 0, _ => by rw [List.take_zero, List.take_zero]; exact .nil
  | _, _, _ + 1, .nil => .nil
  | _, _, k + 1, .cons a b => .cons a (RA.take k b)
theorem RA.drop {B : Hp} : ∀ {vs : List V} {ds : List Dt} (k : Nat), RA B vs ds → RA B (vs.drop k) (ds.drop k)
  | _, _, 0, h => h
  | _, _, _ + 1, .nil => .nil
  | _, _, k + 1, .cons a b => RA.drop k b
theorem ev_slTo {m : Int} (h : EvR ta σ B (.lst ds)) (hi : EvR tb σ B (.int m)) (h0 : 0 ≤ m) : EvR (tSl (rSlL K) ta tNoPart (tPart tb)) σ B (.lst (ds.take m.toNat)) := fun H1 e Q q =>
  h H1 e _ fun v B1 H2 n rv => (hi.mono n.ext) H2 n.sub _ fun w B2 H3 n2 rw => by
    obtain ⟨p, vs, rfl, hp, ra⟩ := rv.lst_inv
    have hp2 := n2.ext _ _ hp
    refine ⟨m, rw.int_inv, p, vs, rfl, sq_of (n2.sub _ _ hp2), fun p2 hp3 => ?_⟩
    rw [cutTo vs m h0]
    exact q _ (upd B2 p2 (.lst (vs.take m.toNat))) _ ((n.trans n2).trans (New.one n2.sub hp3)) (.lst upd_same (((ra.mono n2.ext).take _).mono (Evl.Ex.new (fresh_back n2.sub hp3))))
theorem el_slTo {m : Int} {es : List Dt} (h : EvR ta σ B (.lst ds)) (hi : EvR tb σ B (.int m)) (h0 : 0 ≤ m) (he : ds.take m.toNat = es) : EvL (tSl (rSlL K) ta tNoPart (tPart tb)) σ B es := fun H1 e Q q =>
  h H1 e _ fun v B1 H2 n rv => (hi.mono n.ext) H2 n.sub _ fun w B2 H3 n2 rw => by
    obtain ⟨p, vs, rfl, hp, ra⟩ := rv.lst_inv
    have hp2 := n2.ext _ _ hp
    refine ⟨m, rw.int_inv, p, vs, rfl, sq_of (n2.sub _ _ hp2), fun p2 hp3 => ?_⟩
    rw [cutTo vs m h0]
    have N := n.trans n2
    refine q p2 (vs.take m.toNat) B2 _ ⟨N.ext, Evl.Ex.mut N.sub (fresh_back N.sub hp3), Evl.Ex.mut N.heap (fresh_back N.heap hp3), N.fresh⟩ ⟨fresh_back N.heap hp3, fresh_back N.sub hp3, upd_same⟩ ?_
    rw [← he]
    exact (ra.mono n2.ext).take _
theorem el_lcR1' {n : Int} {f : Nat → Dt} {es : List Dt} {vs : List Nat} (h : EvRA tl σ B [.int n]) (hz : 0 ≤ n ∧ n < 100000) (hw : ∀ x, wipe ((wipe σ vs).set j (some x)) vs = wipe σ vs)
    (he : ∀ (q : Nat) B1, (q : Int) < n → Ex B B1 → EvR ta ((wipe σ vs).set j (some (.int (q : Int)))) B1 (f q)) (hs : (List.range n.toNat).map f = es) : EvL (tLc (iRng1 tl) (gName j) tYes ta vs) σ B es := hs ▸ el_lcR1 h hz hw he
theorem rl_intB {b : Bool} : RL rInt1 [.bl b] (.int (if b = true then 1 else 0)) := fun B H1 vs e ra Q q => by
  cases ra with | cons r1 r2 =>
  cases r1; cases r2
  exact .inr ⟨b, rfl, q _ B H1 (New.refl e) (.int _)⟩
theorem map_erase (k : Nat) : ∀ (l : List Int), (l.map V.int).eraseIdx k = (l.eraseIdx k).map V.int := by
  intro l
  induction l generalizing k with
  | nil => rfl
  | cons x l ih =>
    cases k with
    | zero => rfl
    | succ k => rw [List.map_cons, List.eraseIdx_cons_succ, ih, List.eraseIdx_cons_succ, List.map_cons]
/-- x = [p.pop(e) for j in range(m)], p a list of ints of one's own -/
theorem s_pops {B0 H0 : Hp} {p : Addr} {m : Nat} {nn : Nat} {vs : List Nat} {fP : Nat → List Int} {ix : Nat → Nat} (n0 : New B0 H0 B H) (o : Own H0 B H p ((fP 0).map V.int)) (h : EvRA tl σ B [.int (m : Int)]) (hm : m < 100000)
    (hn : ∀ k : Nat, ((wipe σ vs).set j (some (.int (k : Int))))[nn]? = some (some (.ref p))) (hw : ∀ x, wipe ((wipe σ vs).set j (some x)) vs = wipe σ vs)
    (ha : ∀ (k : Nat) B1, k < m → Ex B B1 → R B1 (.ref p) (eI (fP k)) → EvRA tl2 ((wipe σ vs).set j (some (.int (k : Int)))) B1 [.int (ix k : Nat)])
    (hix : ∀ k, k < m → ix k < (fP k).length ∧ ix k < 1000 ∧ fP (k + 1) = (fP k).eraseIdx (ix k))
    (go : ∀ q B1 H1, New B0 H0 B1 H1 → Ex B B1 → R B1 (.ref q) (eI ((List.range m).map fun k => (fP k).getD (ix k) 0)) → D.nx (σ.set t (some (.ref q))) H1) :
    tAsg (tLc (iRng1 tl) (gName j) tYes (tBM K "list" rPopAt (tVar nn) tl2) vs) (gName t) D σ H := h H n0.sub _ fun us B1 H1 n1 rv => by
  cases rv with | cons r1 rv =>
  cases r1; cases rv
  refine ⟨(m : Int), rfl, by omega, by omega, fun q hq => ?_⟩
  have o1 := o.step n1
  have hpq : p ≠ q := fun z => by subst z; rw [o1.h] at hq; cases hq
  have N1 := n0.trans n1
  refine lc_range (lo := 0) (n := m) (fun i H' => ∃ B', New B0 H0 B' H' ∧ Ex B1 B' ∧ H' p = some (.lst ((fP i).map V.int)) ∧ H0 p = none ∧ B' p = none ∧ H0 q = none ∧ B' q = none ∧ H' q = some (.lst (((List.range i).map fun k => (fP k).getD (ix k) 0).map V.int))) ?_ (fun i H' hi z => ?_) (fun H' z => ?_)
  · have hq0 := fresh_back N1.heap hq
    have hqb := fresh_back N1.sub hq
    exact ⟨B1, ⟨N1.ext, Evl.Ex.mut N1.sub hqb, Evl.Ex.mut N1.heap hq0, N1.fresh⟩, Evl.Ex.refl _, by rw [upd_ne hpq]; exact o1.h, o.h0, o1.b, hq0, hqb, upd_same⟩
  · obtain ⟨B', N', e', hp, hp0, hpb, hq0, hqb, hqv⟩ := z
    rw [Int.zero_add]
    obtain ⟨x1, x2, x3⟩ := hix i hi
    refine ⟨hw _, ?_⟩
    have op : Own H0 B' H' p ((fP i).map V.int) := ⟨hp0, hpb, hp⟩
    refine ⟨_, hn i, .inl ⟨rfl, _, .inl (.inl hp)⟩, (ha i _ hi ((n1.ext.trans e').trans (Evl.Ex.new hpb)) (.lst upd_same (RA.ints _))) H' (op.ex N'.sub) _ fun ws B3 H3 n3 rw => ?_⟩
    cases rw with | cons r1 rw =>
    cases r1; cases rw
    have hp3 := n3.heap _ _ hp
    have hq3 := n3.heap _ _ hqv
    refine ⟨p, _, (ix i : Nat), ix i, .int ((fP i).getD (ix i) 0), rfl, rfl, hp3, by omega, by omega, ?_, ?_, ((List.range i).map fun k => (fP k).getD (ix k) 0).map V.int, ?_, ?_, B', ?_, e', ?_, hp0, hpb, hq0, hqb, ?_⟩
    · unfold seqIndex?
      rw [List.length_map]
      show (if (decide (0 ≤ (if ((ix i : Nat) : Int) < 0 then ((ix i : Nat) : Int) + ((fP i).length : Nat) else ((ix i : Nat) : Int))) && decide ((if ((ix i : Nat) : Int) < 0 then ((ix i : Nat) : Int) + ((fP i).length : Nat) else ((ix i : Nat) : Int)) < ((fP i).length : Nat))) = true then some (Int.toNat (if ((ix i : Nat) : Int) < 0 then ((ix i : Nat) : Int) + ((fP i).length : Nat) else ((ix i : Nat) : Int))) else none) = some (ix i)
      rw [if_neg (show ¬ ((ix i : Nat) : Int) < 0 by omega), decide_eq_true (by omega), decide_eq_true (by omega)]
      simp
    · rw [List.getElem?_map, List.getD_eq_getElem?_getD, List.getElem?_eq_getElem x1]; rfl
    · rw [upd_ne (Ne.symm hpq)]; exact hq3
    · rw [List.length_map, List.length_map, List.length_range]; exact sz_lt (by omega)
    · have N3 : New B0 H0 B' H3 := N'.trans (New.grow (N'.sub.trans n3.heap) n3.heap N'.sub)
      exact ⟨N3.ext, Evl.Ex.mut (Evl.Ex.mut N3.sub hpb) hqb, Evl.Ex.mut (Evl.Ex.mut N3.heap hp0) hq0, N3.fresh⟩
    · rw [upd_ne hpq, upd_same, map_erase, x3]
    · rw [upd_same, List.range_succ, List.map_append, List.map_append]; rfl
  · obtain ⟨B', N', e', hp, hp0, hpb, hq0, hqb, hqv⟩ := z
    have oq : Own H0 B' H' q (((List.range m).map fun k => (fP k).getD (ix k) 0).map V.int) := ⟨hq0, hqb, hqv⟩
    exact go q _ H' (N'.give oq) ((n1.ext.trans e').trans (Evl.Ex.new hqb)) (.lst upd_same (RA.ints _))
/-- p.insert(i, e), p a list of one's own that i may read -/
theorem s_ins {B0 H0 : Hp} {p : Addr} {us : List V} {es : List Dt} {x : Dt} {nn m : Nat} (n0 : New B0 H0 B H) (o : Own H0 B H p us) (ra : RA B us es) (hv : σ[nn]? = some (some (.ref p))) (hz : us.length < 1000) (hm : m < 1000)
    (h1 : EvR ta σ (upd B p (.lst us)) (.int (m : Nat))) (h2 : EvR tb σ B x)
    (go : ∀ (v : V) B1 H1, New B0 H0 B1 H1 → Ex B B1 → Own H0 B1 H1 p (us.take m ++ [v] ++ us.drop m) → RA B1 (us.take m ++ [v] ++ us.drop m) (es.take m ++ [x] ++ es.drop m) → D.nx σ H1) :
    tDrop (tBM K "list" rIns (tVar nn) (tCons ta (tCons tb tNil))) D σ H :=
  ⟨_, hv, .inl ⟨rfl, _, .inl (.inl o.h)⟩, h1 H (o.ex n0.sub) _ fun w B2 H2 n2 rw => by
    cases rw
    have eH : Ex B H2 := n0.sub.trans n2.heap
    have N2 : New B0 H0 B H2 := n0.trans (New.grow eH n2.heap n0.sub)
    refine h2 H2 eH _ fun v B3 H3 n3 rv => ?_
    have N3 := N2.trans n3
    have o2 : Own H0 B H2 p us := ⟨o.h0, o.b, n2.heap _ _ o.h⟩
    have o3 := o2.step n3
    refine ⟨p, us, _, v, rfl, rfl, o3.h, sz_lt (by omega), by omega, by omega, ?_⟩
    rw [Int.toNat_natCast]
    have ra3 := ra.mono n3.ext
    exact go v B3 _ (N3.put o3) n3.ext o3.put (((ra3.take m).append (RA.one rv)).append (ra3.drop m))⟩
end
end U

namespace U
open PySem L2
open Evl (Ex fresh_back sz_of sz_lt sq_of st_of rLenS rListS)
/-! ### < of data -/
def rLtD (K : PySem.W.Frag) : R2 := fun x y H Q => ∃ d e, Dp K H x d ∧ Dp K H y e ∧ PySem.W.alike d e = true ∧ d ≠ .none ∧ min d.depth e.depth ≤ 60 ∧ Q (.bl (PySem.W.dataLt d e)) H
theorem op_ltD {X : Cx} (hu : X.A.units + 64 < cLine) : OpR X (compareOp .Lt) (rLtD X.K) := by
  intro pins s σ H x y v u Q I rx ry h
  obtain ⟨d, e, hd, he, ha, hn, hm, q⟩ := h
  obtain ⟨as, r1⟩ := Dp.reads I d x v hd rx
  obtain ⟨bs, r2⟩ := Dp.reads I e y u he ry
  have z : wpAny (model X.prog X.w) X.A (compareOp .Lt v u) (EP X pins σ Q) X.xe s := PySem.W.rcLt_alike d e X.A s v u as bs r1 r2 ha hn (by omega) X.prog X.w X.xe (EP X pins σ Q) ⟨.bl _, H, I, rfl, q⟩
  exact z
theorem k_ltD {X : Cx} {K : PySem.W.Frag} (h : X.K = K) (hu : X.A.units + 64 < cLine) : OpR X (compareOp .Lt) (rLtD K) := h ▸ op_ltD hu
section
variable {K : PySem.W.Frag} {σ : L2.St} {B B' H : Hp} {ta tb te : TE} {tl tl2 : TA} {d x y : Dt} {ds : List Dt} {D : Ends} {i j n t : Nat} {ns ms : List Int}
theorem cln_ints : ∀ ns : List Int, clnAll (ns.map Dt.int) = true
  | [] => by simp [clnAll]
  | n :: ns => by rw [List.map_cons, clnAll, cln_ints ns, Dt.cln] <;> simp
theorem cln_set {a b : List Int} : (eSet a b).cln = true := by
  rw [Dt.cln, clnAll, clnAll, clnAll, Dt.cln, Dt.cln, cln_ints, cln_ints]; rfl
theorem rv_ltD (ha : PySem.W.alike x.py y.py = true) (hn : x.py ≠ .none) (hm : min x.py.depth y.py.depth ≤ 60) (cx : x.cln = true := by exact cln_set) (cy : y.cln = true := by exact cln_set) : RV (rLtD K) x y (.bl (PySem.W.dataLt x.py y.py)) := fun B H1 v w e r1 r2 Q q =>
  ⟨_, _, (r1.mono e).dp cx, (r2.mono e).dp cy, ha, hn, hm, q _ B H1 (New.refl e) (.bl _)⟩
theorem eqv_ints : ∀ (a b : List Int), PyData.eqvAll (pyAll (a.map Dt.int)) (pyAll (b.map Dt.int)) = decide (a = b)
  | [], [] => by simp [pyAll, PyData.eqvAll]
  | [], _ :: _ => by simp [pyAll, PyData.eqvAll]
  | _ :: _, [] => by simp [pyAll, PyData.eqvAll]
  | x :: a, y :: b => by
    rw [List.map_cons, List.map_cons, pyAll, pyAll, PyData.eqvAll, eqv_ints a b, Dt.py, Dt.py]
    have e : PyData.eqv (.int x) (.int y) = decide (x = y) := by
      simp only [PyData.eqv]
      first
        | rfl
        | (by_cases h : x = y <;> simp [h])
    rw [e]
    by_cases h1 : x = y
    · by_cases h2 : a = b
      · rw [decide_eq_true h1, decide_eq_true h2, decide_eq_true (by rw [h1, h2])]; rfl
      · rw [decide_eq_true h1, decide_eq_false h2, decide_eq_false (fun z => h2 (List.cons.inj z).2)]; rfl
    · rw [decide_eq_false h1, decide_eq_false (fun z => h1 (List.cons.inj z).1)]; rfl
theorem eqv_eI (a b : List Int) : PyData.eqv (eI a).py (eI b).py = decide (a = b) := by
  rw [← eqv_ints a b, Dt.py, Dt.py, PyData.eqv]
theorem alike_ints : ∀ (a b : List Int), PySem.W.alikeAll (pyAll (a.map Dt.int)) (pyAll (b.map Dt.int)) = true
  | [], [] => by simp [pyAll, PySem.W.alikeAll]
  | [], _ :: _ => by simp [pyAll, PySem.W.alikeAll]
  | _ :: _, [] => by simp [pyAll, PySem.W.alikeAll]
  | x :: a, y :: b => by
    rw [List.map_cons, List.map_cons, pyAll, pyAll, PySem.W.alikeAll, alike_ints a b, Dt.py, Dt.py, PySem.W.alike]; rfl
theorem alike_eI (a b : List Int) : PySem.W.alike (eI a).py (eI b).py = true := by
  rw [Dt.py, Dt.py, PySem.W.alike]; exact alike_ints a b
/-- lists of equal length in their order -/
def ltI : List Int → List Int → Bool
  | x :: xs, y :: ys => decide (x < y) || (decide (x = y) && ltI xs ys)
  | _, _ => false
theorem ltI_irr : ∀ a, ltI a a = false
  | [] => rfl
  | x :: a => by simp [ltI, ltI_irr a]
theorem lt_toks : ∀ (a b : List Int), ltI a b = true → PyProof.Rows.lexLt PyProof.Rows.itemOrd (PySem.W.keyToksAll (pyAll (a.map Dt.int))) (PySem.W.keyToksAll (pyAll (b.map Dt.int))) = true
  | [], _, h => by simp [ltI] at h
  | _ :: _, [], h => by simp [ltI] at h
  | x :: a, y :: b, h => by
    have hal : PySem.W.alike (Dt.int x).py (Dt.int y).py = true := by rw [Dt.py, Dt.py, PySem.W.alike]
    rw [List.map_cons, List.map_cons, pyAll, pyAll]
    rw [ltI, Bool.or_eq_true, Bool.and_eq_true, decide_eq_true_eq, decide_eq_true_eq] at h
    have he := eqv_ints [x] [y]
    by_cases hxy : x = y
    · subst hxy
      have h' : ltI a b = true := by rcases h with h | h; omega; exact h.2
      rw [PySem.W.dataLt_all_yes hal (PySem.W.eqv_refl_alike _ hal)]
      exact lt_toks a b h'
    · have hlt : x < y := by rcases h with h | h; exact h; exact absurd h.1 hxy
      have hne : PyData.eqv (Dt.int x).py (Dt.int y).py = false := by
        have : PyData.eqvAll [(Dt.int x).py] [(Dt.int y).py] = false := by
          have h2 := eqv_ints [x] [y]
          rw [decide_eq_false (fun z => hxy (List.cons.inj z).1)] at h2
          exact h2
        rw [PyData.eqvAll, PyData.eqvAll, Bool.and_true] at this
        exact this
      rw [PySem.W.dataLt_all_no hal hne, Dt.py, Dt.py, PySem.W.dataLt_int]
      exact decide_eq_true hlt
theorem lt_set {a b c d : List Int} (h : ltI a b = true ∨ (a = b ∧ ltI c d = true)) : PySem.W.dataLt (eSet a c).py (eSet b d).py = true ∧ PySem.W.alike (eSet a c).py (eSet b d).py = true ∧ (eSet a c).py ≠ .none ∧ min (eSet a c).py.depth (eSet b d).py.depth ≤ 60 := by
  have e1 : (eSet a c).py = .tuple [(eI a).py, (eI c).py] := by simp only [Dt.py, pyAll]
  have e2 : (eSet b d).py = .tuple [(eI b).py, (eI d).py] := by simp only [Dt.py, pyAll]
  have al1 := alike_eI a b
  have al2 := alike_eI c d
  refine ⟨?_, ?_, by rw [e1]; simp, ?_⟩
  · rw [e1, e2, PySem.W.dataLt_tuple]
    rcases h with h | ⟨rfl, h⟩
    · have hne : PyData.eqv (eI a).py (eI b).py = false := by
        rw [eqv_eI, decide_eq_false]
        intro z; subst z; rw [ltI_irr] at h; cases h
      rw [PySem.W.dataLt_all_no al1 hne, Dt.py, Dt.py, PySem.W.dataLt_list]
      exact lt_toks a b h
    · rw [PySem.W.dataLt_all_yes al1 (PySem.W.eqv_refl_alike _ al1)]
      have hne : PyData.eqv (eI c).py (eI d).py = false := by
        rw [eqv_eI, decide_eq_false]
        intro z; subst z; rw [ltI_irr] at h; cases h
      rw [PySem.W.dataLt_all_no al2 hne, Dt.py, Dt.py, PySem.W.dataLt_list]
      exact lt_toks c d h
  · rw [e1, e2, PySem.W.alike, PySem.W.alikeAll, PySem.W.alikeAll, PySem.W.alikeAll, al1, al2]; rfl
  · rw [dep_py]
    have : (eSet a c).dep = 2 := by rw [Dt.dep, depAll, depAll, depAll, Dt.dep, Dt.dep, depAll_ints, depAll_ints]; rfl
    omega
/-! ### list(range(n)) -/
theorem ev_listRg {n : Int} (h : EvR ta σ B (.int n)) (h0 : 0 ≤ n) (h1 : n ≤ 1000000) : EvR (tLstRg (tRg1 ta)) σ B (.lst ((List.range n.toNat).map fun i : Nat => Dt.int (i : Nat))) := fun H1 e Q q =>
  h H1 e _ fun v B2 H2 nw rv => by
    cases rv
    refine ⟨n, rfl, RgOk.of_le (by omega) (by omega) (by omega) (by omega), fun p hp => ?_⟩
    have er : rgV 0 n = (List.range n.toNat).map fun i : Nat => V.int (i : Nat) := by
      unfold rgV
      rw [Int.sub_zero]
      exact List.map_congr_left fun i _ => by rw [Int.zero_add]
    rw [er]
    exact q _ _ _ (nw.trans (New.one nw.sub hp)) (.lst upd_same (ra_rng _))
/-! ### several lists of one's own -/
/-- the base with what stands at the places as -/
def gB (B H : Hp) (as : List Addr) : Hp := fun a => if a ∈ as then H a else B a
theorem gB_ex {as : List Addr} (e : Ex B H) : Ex (gB B H as) H := fun a u h => by
  unfold gB at h
  split at h
  · exact h
  · exact e a u h
theorem gB_ext {as : List Addr} (hb : ∀ a ∈ as, B a = none) : Ex B (gB B H as) := fun a u h => by
  unfold gB
  rw [if_neg (fun z => by rw [hb a z] at h; cases h)]
  exact h
theorem New.giveA {B0 H0 : Hp} {as : List Addr} (n : New B0 H0 B H) (ho : ∀ a ∈ as, H0 a = none ∧ B a = none) : New B0 H0 (gB B H as) H :=
  ⟨n.ext.trans (gB_ext fun a h => (ho a h).2), gB_ex n.sub, n.heap, fun a h1 h2 => by
    unfold gB
    rw [if_neg (fun z => h2 (ho a z).1)]
    exact n.fresh a h1 h2⟩
structure Pr where
  p : Addr
  q : Addr
  r : List Int
  c : List Int
def adrs (es : List Pr) : List Addr := es.flatMap fun e => [e.p, e.q]
structure PrOk (H0 B H : Hp) (v : V) (e : Pr) : Prop where
  t : ∃ t, v = .ref t ∧ B t = some (.tup [.ref e.p, .ref e.q])
  p : Own H0 B H e.p (e.r.map V.int)
  q : Own H0 B H e.q (e.c.map V.int)
/-- the values ts are tuples of two lists of one's own each -/
inductive Prs (H0 B H : Hp) : List V → List Pr → Prop
  | nil : Prs H0 B H [] []
  | cons {v : V} {vs : List V} {e : Pr} {es : List Pr} : PrOk H0 B H v e → Prs H0 B H vs es → Prs H0 B H (v :: vs) (e :: es)
theorem PrOk.step {H0 B1 H1 : Hp} {v : V} {e : Pr} (o : PrOk H0 B H v e) (n : New B H B1 H1) : PrOk H0 B1 H1 v e := by
  obtain ⟨⟨t, h1, h2⟩, p, q⟩ := o
  exact ⟨⟨t, h1, n.ext _ _ h2⟩, p.step n, q.step n⟩
theorem Prs.step {H0 B1 H1 : Hp} (n : New B H B1 H1) : ∀ {vs : List V} {es : List Pr}, Prs H0 B H vs es → Prs H0 B1 H1 vs es
  | _, _, .nil => .nil
  | _, _, .cons a b => .cons (a.step n) (Prs.step n b)
theorem Prs.append {H0 : Hp} : ∀ {vs ws : List V} {es fs : List Pr}, Prs H0 B H vs es → Prs H0 B H ws fs → Prs H0 B H (vs ++ ws) (es ++ fs)
  | _, _, _, _, .nil, k => k
  | _, _, _, _, .cons a b, k => .cons a (Prs.append b k)
theorem Prs.len {H0 : Hp} : ∀ {vs : List V} {es : List Pr}, Prs H0 B H vs es → vs.length = es.length
  | _, _, .nil => rfl
  | _, _, .cons _ b => by rw [List.length_cons, List.length_cons, Prs.len b]
theorem Prs.own {H0 : Hp} : ∀ {vs : List V} {es : List Pr}, Prs H0 B H vs es → ∀ a ∈ adrs es, H0 a = none ∧ B a = none
  | _, _, .nil, a, h => by cases h
  | _, _, .cons (e := e) (es := es) x b, a, h => by
    have h : a ∈ [e.p, e.q] ++ adrs es := h
    rcases List.mem_append.mp h with h | h
    · rcases List.mem_cons.mp h with h | h
      · rw [h]; exact ⟨x.p.h0, x.p.b⟩
      · rw [List.mem_singleton.mp h]; exact ⟨x.q.h0, x.q.b⟩
    · exact Prs.own b a h
theorem Prs.get {H0 : Hp} : ∀ {vs : List V} {es : List Pr} {i : Nat} {v : V}, Prs H0 B H vs es → vs[i]? = some v → ∃ e, es[i]? = some e ∧ PrOk H0 B H v e
  | _, _, _, _, .nil, h => by simp at h
  | _, _, 0, _, .cons a b, h => by simp at h; subst h; exact ⟨_, rfl, a⟩
  | _, _, i + 1, _, .cons a b, h => by
    obtain ⟨e, h1, h2⟩ := Prs.get (i := i) b (by simpa using h)
    exact ⟨e, by simpa using h1, h2⟩
/-- other places have changed -/
theorem Prs.other {H0 B1 H1 : Hp} : ∀ {vs : List V} {es : List Pr}, (∀ a ∈ adrs es, H1 a = H a ∧ B1 a = none) → Ex B B1 → Prs H0 B H vs es → Prs H0 B1 H1 vs es
  | [], [], _, _, .nil => .nil
  | _ :: _, e :: es, h, e1, .cons x b => by
    have h : ∀ a ∈ [e.p, e.q] ++ adrs es, H1 a = H a ∧ B1 a = none := h
    have hp := h e.p (by simp)
    have hq := h e.q (by simp)
    obtain ⟨⟨t, h1, h2⟩, p, q⟩ := x
    exact .cons ⟨⟨t, h1, e1 _ _ h2⟩, ⟨p.h0, hp.2, by rw [hp.1]; exact p.h⟩, ⟨q.h0, hq.2, by rw [hq.1]; exact q.h⟩⟩ (Prs.other (fun a ha => h a (List.mem_append_right _ ha)) e1 b)
/-- as data -/
theorem Prs.data {H0 : Hp} {as : List Addr} (e0 : Ex B H) : ∀ {vs : List V} {es : List Pr}, (∀ a ∈ adrs es, a ∈ as) → (∀ a ∈ as, B a = none) → Prs H0 B H vs es → RA (gB B H as) vs (es.map fun e => eSet e.r e.c)
  | [], [], _, _, .nil => .nil
  | _ :: _, e :: es, h, hb, .cons x b => by
    have h : ∀ a ∈ [e.p, e.q] ++ adrs es, a ∈ as := h
    obtain ⟨⟨t, h1, h2⟩, p, q⟩ := x
    subst h1
    have gp : gB B H as e.p = some (.lst (e.r.map V.int)) := by unfold gB; rw [if_pos (h e.p (by simp))]; exact p.h
    have gq : gB B H as e.q = some (.lst (e.c.map V.int)) := by unfold gB; rw [if_pos (h e.q (by simp))]; exact q.h
    exact .cons (.tup (gB_ext hb _ _ h2) (.cons (.lst gp (RA.ints _)) (.cons (.lst gq (RA.ints _)) .nil))) (Prs.data e0 (fun a ha => h a (List.mem_append_right _ ha)) hb b)
/-- a new list of new pairs of new lists -/
def EvP (te : TE) (σ : L2.St) (B : Hp) (l : List (List Int × List Int)) : Prop := ∀ H1, Ex B H1 → ∀ Q : VK, (∀ a ts es B2 H2, New B H1 B2 H2 → B2 a = some (.lst ts) → Prs H1 B2 H2 ts es → (adrs es).Nodup → (es.map fun e => (e.r, e.c)) = l → Q (.ref a) H2) → te σ H1 Q
theorem EvP.toR {l : List (List Int × List Int)} (h : EvP te σ B l) : EvR te σ B (.lst (l.map fun x => eSet x.1 x.2)) := fun H1 e Q q => h H1 e Q fun a ts es B2 H2 n ha pr _ hl => by
  refine q _ (gB B2 H2 (adrs es)) H2 (n.giveA (pr.own)) (.lst (gB_ext (fun a h => (pr.own a h).2) _ _ ha) ?_)
  rw [← hl, List.map_map]
  exact pr.data n.sub (fun _ h => h) fun a h => (pr.own a h).2
theorem adrs_snoc (es : List Pr) (e : Pr) : adrs (es ++ [e]) = adrs es ++ [e.p, e.q] := by unfold adrs; rw [List.flatMap_append]; rfl
/-- [(list(x), list(y)) for x in ta for y in tb] -/
theorem ep_lc2 {l m : List (List Int)} {vs vs1 : List Nat} {wi wi1 : TI} {j1 : Nat} (ho : Goes wi σ B (l.map eI)) (hz : l.length * m.length < 100000)
    (hw : ∀ x, wipe ((wipe σ vs).set j (some x)) vs = wipe σ vs) (hw1 : ∀ x y, wipe ((wipe ((wipe σ vs).set j (some x)) vs1).set j1 (some y)) vs1 = wipe ((wipe σ vs).set j (some x)) vs1)
    (hi : ∀ v B1, Ex B B1 → Goes wi1 ((wipe σ vs).set j (some v)) B1 (m.map eI))
    (h1 : ∀ v u, ((wipe ((wipe σ vs).set j (some v)) vs1).set j1 (some u))[j]? = some (some v)) (h2 : ∀ v u, ((wipe ((wipe σ vs).set j (some v)) vs1).set j1 (some u))[j1]? = some (some u)) :
    EvP (tLc2 wi (gName j) tYes wi1 (gName j1) tYes (tTup (tCons (tCB (rListS K) (tCons (tVar j) tNil)) (tCons (tCB (rListS K) (tCons (tVar j1) tNil)) tNil))) vs vs1) σ B (l.flatMap fun a => m.map fun b => (a, b)) := fun H0 e0 Q k => ho H0 e0 _ fun J B1 H1 n lp D hD => by
  have lenF : ∀ i, ((l.take i).flatMap fun a => m.map fun b => (a, b)).length ≤ l.length * m.length := fun i => by
    have h : ∀ q : List (List Int), (q.flatMap fun a => m.map fun b => (a, b)).length = q.length * m.length := fun q => by
      induction q with
      | nil => simp
      | cons a q ih => rw [List.flatMap_cons, List.length_append, ih, List.length_map, List.length_cons, Nat.succ_mul, Nat.add_comm]
    rw [h]
    exact Nat.mul_le_mul_right _ (by rw [List.length_take]; omega)
  refine lp (fun x H' N => gName j x (wipe σ vs) H' fun σ2 H2 => wipe σ2 vs = wipe σ vs ∧ tYes σ2 H2 fun b H3 => if b = true then _ else N H3) _ (fun i H' => ∃ B' acc es, New B1 H1 B' H' ∧ Own H1 B' H' D acc ∧ Prs H1 B' H' acc es ∧ (D :: adrs es).Nodup ∧ (es.map fun e => (e.r, e.c)) = (l.take i).flatMap fun a => m.map fun b => (a, b)) (upd H1 D (.lst [])) (n.sub.trans (Evl.Ex.new hD)) ?_ ?_ ?_
  · exact ⟨B1, [], [], ⟨Evl.Ex.refl _, Evl.Ex.mut n.sub (fresh_back n.sub hD), Evl.Ex.new hD, fun _ h _ => h⟩, ⟨hD, fresh_back n.sub hD, upd_same⟩, .nil, by simp [adrs], rfl⟩
  · rintro i d x H' e1 hd rx ⟨B', acc, es, n', o, pr, nd, hes⟩
    rw [List.getElem?_map] at hd
    cases hq : l[i]? with
    | none => rw [hq] at hd; cases hd
    | some a =>
    rw [hq] at hd; cases hd
    refine ⟨hw x, ?_⟩
    have bD : B1 D = none := fresh_back n.sub hD
    refine (hi x B' (n.ext.trans n'.ext)) H' n'.sub _ fun J1 B2 H2 n2 lp1 => ?_
    have b2D : B2 D = none := n2.fresh D o.b (by rw [o.h]; simp)
    refine lp1 (fun y H'' N => gName j1 y (wipe ((wipe σ vs).set j (some x)) vs1) H'' fun σ3 H5 => wipe σ3 vs1 = wipe ((wipe σ vs).set j (some x)) vs1 ∧ tYes σ3 H5 fun b H6 => if b = true then (tTup (tCons (tCB (rListS K) (tCons (tVar j) tNil)) (tCons (tCB (rListS K) (tCons (tVar j1) tNil)) tNil))) σ3 H6 fun y H7 => ∃ acc, H7 D = some (.lst acc) ∧ acc.length < sizeLine ∧ N (upd H7 D (.lst (acc ++ [y]))) else N H6) _
      (fun i2 H'' => ∃ B3 acc es, Ex B2 B3 ∧ New B1 H1 B3 H'' ∧ Own H1 B3 H'' D acc ∧ Prs H1 B3 H'' acc es ∧ (D :: adrs es).Nodup ∧ (es.map fun e => (e.r, e.c)) = ((l.take i).flatMap fun a => m.map fun b => (a, b)) ++ (m.take i2).map fun b => (a, b)) H2 n2.sub ?_ ?_ ?_
    · exact ⟨B2, acc, es, Evl.Ex.refl _, n'.trans n2, o.step n2, pr.step n2, nd, by rw [hes, List.take_zero]; simp⟩
    · rintro i2 d2 u H'' e2 hd2 ru ⟨B3, acc3, es3, e23, n3, o3, pr3, nd3, hes3⟩
      rw [List.getElem?_map] at hd2
      cases hq2 : m[i2]? with
      | none => rw [hq2] at hd2; cases hd2
      | some b =>
      rw [hq2] at hd2; cases hd2
      refine ⟨hw1 x u, ?_⟩
      have len : acc3.length < 100000 := by
        rw [pr3.len]
        have h3 := congrArg List.length hes3
        rw [List.length_map, List.length_append, List.length_map] at h3
        have h4 := lenF (i + 1)
        rw [List.take_add_one, hq, List.flatMap_append, List.length_append] at h4
        have h5 : ((some a).toList.flatMap fun a => m.map fun b => (a, b)).length = m.length := by simp
        rw [h5] at h4
        have h6 : (m.take i2).length ≤ m.length := by rw [List.length_take]; omega
        omega
      unfold tYes
      dsimp only
      rw [if_pos rfl]
      have rx3 := (rx.mono n'.ext).mono (n2.ext.trans e23)
      refine (el_list (K := K) (ev_v (h1 x u) rx3)) H'' n3.sub _ fun p us B4 H4 n4 o4 ra4 => ?_
      have eus := ra4.ints_inv
      subst eus
      refine (el_list (K := K) (ev_v (h2 x u) ((ru.mono e23).mono n4.ext))) H4 n4.sub _ fun q us B5 H5 n5 o5 ra5 => ?_
      have eus := ra5.ints_inv
      subst eus
      refine ⟨sz_of (by simp), fun t ht => ?_⟩
      have n45 := n4.trans n5
      have tb := fresh_back n5.sub ht
      have n6 : New B3 H'' (upd B5 t (.tup [.ref p, .ref q])) (upd H5 t (.tup [.ref p, .ref q])) := n45.trans (New.one n5.sub ht)
      have N6 := n3.trans n6
      have D6 := o3.step n6
      have pt : p ≠ t := fun z => by subst z; rw [(o4.step n5).h] at ht; cases ht
      have qt : q ≠ t := fun z => by subst z; rw [o5.h] at ht; cases ht
      have op : Own H1 (upd B5 t (.tup [.ref p, .ref q])) (upd H5 t (.tup [.ref p, .ref q])) p (a.map V.int) := ⟨fresh_back n3.heap o4.h0, by rw [upd_ne pt]; exact (o4.step n5).b, by rw [upd_ne pt]; exact (o4.step n5).h⟩
      have oq : Own H1 (upd B5 t (.tup [.ref p, .ref q])) (upd H5 t (.tup [.ref p, .ref q])) q (b.map V.int) := ⟨fresh_back (n3.heap.trans n4.heap) o5.h0, by rw [upd_ne qt]; exact o5.b, by rw [upd_ne qt]; exact o5.h⟩
      have pD : p ≠ D := fun z => by have := o4.h0; rw [z, o3.h] at this; cases this
      have qD : q ≠ D := fun z => by have := o5.h0; rw [z, (o3.step n4).h] at this; cases this
      have pq : p ≠ q := fun z => by have := o5.h0; rw [← z, o4.h] at this; cases this
      have inH : ∀ z ∈ adrs es3, ∃ w, H'' z = some w := fun z hz => by
        have : ∀ {vs : List V} {es : List Pr}, Prs H1 B3 H'' vs es → z ∈ adrs es → ∃ w, H'' z = some w := by
          intro vs es pr
          induction pr with
          | nil => intro h; cases h
          | cons a b ih =>
            rename_i v vs e es
            intro h
            have h : z ∈ [e.p, e.q] ++ adrs es := h
            rcases List.mem_append.mp h with h | h
            · rcases List.mem_cons.mp h with h | h
              · rw [h]; exact ⟨_, a.p.h⟩
              · rw [List.mem_singleton.mp h]; exact ⟨_, a.q.h⟩
            · exact ih h
        exact this pr3 hz
      have pN : p ∉ adrs es3 := fun z => by obtain ⟨w, hw⟩ := inH p z; rw [o4.h0] at hw; cases hw
      have qN : q ∉ adrs es3 := fun z => by obtain ⟨w, hw⟩ := inH q z; have := n4.heap _ _ hw; rw [o5.h0] at this; cases this
      have prN : Prs H1 (upd B5 t (.tup [.ref p, .ref q])) (upd H5 t (.tup [.ref p, .ref q])) (acc3 ++ [V.ref t]) (es3 ++ [⟨p, q, a, b⟩]) := (pr3.step n6).append (.cons ⟨⟨t, rfl, upd_same⟩, op, oq⟩ .nil)
      have ndN : (D :: adrs (es3 ++ [⟨p, q, a, b⟩])).Nodup := by
        rw [adrs_snoc]
        have nd1 := List.nodup_cons.mp nd3
        refine List.nodup_cons.mpr ⟨fun z => ?_, List.nodup_append.mpr ⟨nd1.2, by simp [pq], fun z hz y hy e => ?_⟩⟩
        · rcases List.mem_append.mp z with z | z
          · exact nd1.1 z
          · rcases List.mem_cons.mp z with z | z
            · exact pD z.symm
            · exact qD (List.mem_singleton.mp z).symm
        · subst e
          rcases List.mem_cons.mp hy with h | h
          · rw [h] at hz; exact pN hz
          · rw [List.mem_singleton.mp h] at hz; exact qN hz
      refine ⟨acc3, D6.h, sz_lt len, Evl.Ex.mut (e23.trans (n6.ext.trans n6.sub)) b2D, _, _, es3 ++ [⟨p, q, a, b⟩], e23.trans n6.ext, N6.put D6, D6.put, prN.other (fun z hz => ⟨upd_ne (fun e => ?_), (prN.own z hz).2⟩) (Evl.Ex.refl _), ndN, ?_⟩
      · subst e; exact (List.nodup_cons.mp ndN).1 hz
      · rw [List.map_append, hes3, List.take_add_one, hq2, List.map_append, List.append_assoc]; rfl
    · rintro H'' e2 ⟨B3, acc3, es3, e23, n3, o3, pr3, nd3, hes3⟩
      refine ⟨n3.ext.trans n3.sub, B3, acc3, es3, n3, o3, pr3, nd3, ?_⟩
      rw [hes3, List.length_map, List.take_length, List.take_add_one, hq, List.flatMap_append]
      simp
  · rintro H' e1 ⟨B', acc, es, n', o, pr, nd, hes⟩
    rw [List.length_map, List.take_length] at hes
    have nd1 := List.nodup_cons.mp nd
    have N := n.trans n'
    have og : Own H0 B' H' D acc := n.own o
    refine k D acc es _ H' (N.give og) upd_same ?_ nd1.2 hes
    have pr0 : Prs H0 B' H' acc es := by
      have : ∀ {vs : List V} {es : List Pr}, Prs H1 B' H' vs es → Prs H0 B' H' vs es := by
        intro vs es pr
        induction pr with
        | nil => exact .nil
        | cons a b ih => exact .cons ⟨a.t, n.own a.p, n.own a.q⟩ ih
      exact this pr
    exact pr0.other (fun z hz => ⟨rfl, by rw [upd_ne (fun e => by subst e; exact nd1.1 hz)]; exact (pr0.own z hz).2⟩) (Evl.Ex.new o.b)
/-- a promise: such a list -/
def spP (g : List Dt → List (List Int × List Int) → Prop) : Sp := fun vs H Q _ => ∃ B as l, Ex B H ∧ RA B vs as ∧ g as l ∧ ∀ a ts es B2 H2, New B H B2 H2 → B2 a = some (.lst ts) → Prs H B2 H2 ts es → (adrs es).Nodup → (es.map fun e => (e.r, e.c)) = l → Q (.ref a) H2
theorem Prs.back {H0 H1 : Hp} (e : Ex H0 H1) : ∀ {vs : List V} {es : List Pr}, Prs H1 B H vs es → Prs H0 B H vs es
  | _, _, .nil => .nil
  | _, _, .cons a b => .cons ⟨a.t, ⟨fresh_back e a.p.h0, a.p.b, a.p.h⟩, ⟨fresh_back e a.q.h0, a.q.b, a.q.h⟩⟩ (Prs.back e b)
theorem ep_call {xs : List Dt} {l : List (List Int × List Int)} {g : List Dt → List (List Int × List Int) → Prop} {E : XK} (h : EvRA tl σ B xs) (hg : g xs l) : EvP (tCall (spP g) [] E tl) σ B l := fun H1 e Q q => h H1 e _ fun vs B1 H2 n ra => by
  refine ⟨B1, xs, l, n.sub, by rw [List.append_nil]; exact ra, hg, fun a ts es B2 H3 n2 ha pr nd hl => q a ts es B2 H3 (n.trans n2) ha (pr.back n.heap) nd hl⟩
theorem ep_callK {xs zs : List Dt} {l : List (List Int × List Int)} {g : List Dt → List (List Int × List Int) → Prop} {E : XK} {tk : TA} {gV : List V → List V → List V} {gD : List Dt → List Dt → List Dt} (h : EvRA tl σ B xs) (hk : EvRA tk σ B zs) (rel : ∀ B vs ws as bs, RA B vs as → RA B ws bs → as.length = xs.length → bs.length = zs.length → RA B (gV vs ws) (gD as bs)) (hg : g (gD xs zs) l) :
    EvP (tCallK (spP g) gV E tl tk) σ B l := fun H1 e Q q => h H1 e _ fun vs B1 H2 n ra => (hk.mono n.ext) H2 n.sub _ fun ws B2 H3 n2 rb =>
  ⟨B2, _, l, n2.sub, rel B2 vs ws xs zs (ra.mono n2.ext) rb rfl rfl, hg, fun a ts es B3 H4 n3 ha pr nd hl => q a ts es B3 H4 ((n.trans n2).trans n3) ha (pr.back (n.trans n2).heap) nd hl⟩
end
section
variable {K : PySem.W.Frag} {σ : L2.St} {B B' H : Hp} {D : Ends} {tu : TS} {g : TG} {n : Nat}
theorem s_asgP {te : TE} {q : Nat} {l : List (List Int × List Int)} (e : Ex B H) (h : EvP te σ B l) (k : ∀ a ts es B1 H1, New B H B1 H1 → B1 a = some (.lst ts) → Prs H B1 H1 ts es → (adrs es).Nodup → (es.map fun e => (e.r, e.c)) = l → D.nx (σ.set q (some (.ref a))) H1) : tAsg te (gName q) D σ H := h H e _ k
/-- over a list that is not all told -/
theorem s_forRaw {a : Addr} {ts : List V} (e : Ex B H) (hv : σ[n]? = some (some (.ref a))) (hB : B a = some (.lst ts)) (Pv : Nat → L2.St → Hp → Prop) (h0 : Pv 0 σ H) (hx : ∀ i σ' H', Pv i σ' H' → Ex B H')
    (hs : ∀ i v σ' H', ts[i]? = some v → Pv i σ' H' → g v σ' H' fun σ2 H2 => tu { D with nx := Pv (i + 1), ct := Pv (i + 1), bk := D.nx } σ2 H2)
    (hd : ∀ σ' H', Pv ts.length σ' H' → D.nx σ' H') : tFor (iSeq K (tVar n)) g tu D σ H :=
  ⟨_, hv, a, rfl, .inl ⟨⟨ts, sq_of (e _ _ hB)⟩, for_list (K := K) (a := a) (xs := ts) Pv h0 (fun i σ' H' _ q => sq_of (hx i σ' H' q _ _ hB)) (fun i v σ' H' hi q => hs i v σ' H' hi q) hd⟩⟩
/-- t[i].append(z), t a tuple -/
theorem s_appRaw {t p : Addr} {vs us : List V} {i z : Int} (hv : σ[n]? = some (some (.ref t))) (ht : H t = some (.tup vs)) (hi : atI vs i = some (.ref p)) (hp : H p = some (.lst us)) (hz : us.length < 100000) (go : D.nx σ (upd H p (.lst (us ++ [.int z])))) :
    tDrop (tBM K "list" rAppend (tOp (rIx K) (tVar n) (tC (.int i))) (tCons (tC (.int z)) tNil)) D σ H :=
  ⟨_, hv, .inr (.inl ⟨t, vs, i, .ref p, rfl, rfl, st_of ht, hi, ⟨.inl ⟨rfl, _, .inl (.inl hp)⟩, ⟨p, us, .int z, rfl, rfl, hp, sz_lt hz, go⟩⟩⟩)⟩
end
section
variable {P : Program} {w : World} {K : PySem.W.Frag} {mg : Str → Option Value} {base : Heap}
open PySem.Spec PyProof.Rows in
theorem fn_P {x qual : Str} {st : Stmt} {f : Addr} {fd : FuncData} {N ps : List Str} {k : Nat} {g : List Dt → List (List Int × List Int) → Prop} (F : Fun K x qual st f fd) (S : FnScope N ps (defScope st)) (len : ∀ ds d, g ds d → ds.length = ps.length)
    (body : ∀ (cdv : Value) (Γ : Around) (below : List Env) (s : Shared) (B H : Hp) (vs : List V) (as : List Dt) (l : List (List Int × List Int)) (Q : VK) (E : XK), Γ.guards = some [] → Room k (Γ.deeper (envOfC qual (defScope st) s.heap.objs.size f cdv)) →
      Ex B H → RA B vs as → g as l → (∀ a ts es B2 H2, New B H B2 H2 → B2 a = some (.lst ts) → Prs H B2 H2 ts es → (adrs es).Nodup → (es.map fun e => (e.r, e.c)) = l → Q (.ref a) H2) →
      ∃ t, PSs (cxOf CX0 P w K mg base N qual (defScope st) f cdv Γ below s H E).nox (defBody st) t ∧ t { nx := fun _ H' => Q .non H', rt := Q } (start N vs) H) : FnG P w K mg base CX0 (k + 1) f fd ps (spP g) := by
  refine fn_S F S (fun vs H Q E h => ?_) (fun cdv Γ below s H vs Q E hg hr h => ?_)
  · obtain ⟨B, as, ds, _, ra, hd, _⟩ := h
    rw [ra.len]
    exact len as ds hd
  · obtain ⟨B, as, ds, e, ra, hd, q⟩ := h
    exact body cdv Γ below s B H vs as ds Q E hg hr e ra hd q
end
end U

namespace U
open PySem PySem.Spec PyProof.Rows L2
open Evl (Ex fresh_back sz_of sz_lt sq_of st_of rLenS rListS)
theorem takesN {X : Cx} : Takes X (fun _ _ _ _ => False) := fun _ _ x => by
  obtain ⟨_, _, _, _, _, _, _, _, _, _, _, _, _, _, _, _, z⟩ := x
  exact z.elim
theorem passF {X : Cx} : Passes (L2.CX X.prog X.w) X (fun _ _ _ => False) := fun _ _ _ _ _ _ _ ⟨_, _, _, _, _, _, _, _, _, _, _, _, z⟩ => z.elim
section
variable {CX : CXT} {X : Cx} {k : Nat} {f : Addr} {fd : FuncData} {ps : List Str} {sp : Sp} {E : L2.St → XK} {x : Str} {p pos : Pos} {e : Expr} {es : List Expr} {t : TA}
theorem goneS {pins : List (Addr × Obj)} {σ : L2.St} {H : Hp} {s : Shared} {Q : VK} {given : Args} {us : List Value} {as : List V} (F : FnG X.prog X.w X.K X.mg X.base CX k f fd ps sp) (g : X.A.guards = some []) (room : Room k X.A)
    (pass : PassesAt CX X σ (E σ)) (I : Inv X pins σ H s) (hb : BindsTo s fd given (ps.zip us)) (hv : Vals as us) (asked : sp as H Q (E σ)) :
    codeAny (model X.prog X.w) X.A (.call (.ref f) given) (fun r s' => match r with | .ok (.ret u) => EP X pins σ Q u s' | .ok _ => False | .error z => X.xe z s') s := by
  refine codeAny_mono (F.goes X.A g room X.stack s H I.env0 given us as hb hv Q (E σ) asked) (fun r s' z => ?_)
  match r, z with
  | .error a, z => exact pass pins H s a s' I z
  | .ok (.ret u), z => exact I.after z
  | .ok .next, z => exact z.elim
  | .ok .brk, z => exact z.elim
  | .ok .cont, z => exact z.elim
/-- f(e, ..), in a try -/
theorem pe_goS (F : FnG X.prog X.w X.K X.mg X.base CX k f fd ps sp) (g : X.A.guards = some []) (room : Room k X.A) (glob : Gl X x) (at_ : X.mg x = some (.ref f)) (kept : PySem.W.keepIn X.K (.ref f) = true)
    (hb : Binds X.K fd ps []) (pass : ∀ σ, PassesAt CX X σ (E σ)) (ha : PA X (e :: es) t) (nd : (x == ("__debug__" : Str)) = false := by decide)
    (he : starEach (e :: es) X.env = (false, eval e X.env) :: starEach es X.env := by rfl) (plain : (backTo pos (starEach es X.env)).any (·.1) = false := by rfl) :
    PE X (.Call (.Name x p) (e :: es) [] pos) (tCallS sp E t) := by
  constructor
  intro pins s σ H Q I h
  apply wpAny_Call_Name_kw (ld_glob I glob at_ _ nd)
  refine PySem.W.callWith_K (h₀ := X.base) I.ok.mod.kin kept (thn (ha.run pos pins s σ H _ I h) ?_) he plain
  rintro us s1 ⟨as, H1, I1, rv, asked⟩
  have many : us.length = ps.length := by rw [← rv.length]; exact F.long _ _ _ _ asked
  have bound := hb s1 us I1.kIn (by simpa using many)
  rw [List.append_nil] at bound
  exact ⟨I1.kIn, wpAny_call (goneS F g room (pass σ) I1 bound rv asked)⟩
end
/-- an error class of the program's own, made with one text -/
structure ExcT (K : PySem.W.Frag) (mg : Str → Option Value) (x : Str) (C : Addr) : Prop where
  g : mg x = some (.ref C)
  k : PySem.W.keepIn K (.ref C) = true
  x : PySem.W.excIn K C [.type "ValueError", .type "Exception", .type "BaseException", .type "object"] "ValueError.__new__" = true
  b : PySem.W.subIn K (.ref C) (.type "BaseException") = some true
  t : PySem.W.typeIn K (.ref C) = some (.type "type")
  i : ExcC K C
  v : PySem.W.subIn K (.ref C) (.type "ValueError") = some true
/-- an error class in an except clause -/
structure ExcP (K : PySem.W.Frag) (mg : Str → Option Value) (x : Str) (C : Addr) : Prop where
  g : mg x = some (.ref C)
  b : PySem.W.subIn K (.ref C) (.type "BaseException") = some true
  d : PySem.W.hasDictIn K C = true
  t : PySem.W.typeIn K (.ref C) = some (.type "type")
def cAt (mg : Str → Option Value) (x : Str) : Addr := match mg x with
  | some (.ref C) => C
  | _ => 0
theorem cAt_of {mg : Str → Option Value} {x : Str} {C : Addr} (h : mg x = some (.ref C)) : cAt mg x = C := by unfold cAt; rw [h]
/-- isinstance(e, c), e the error that the suite holds -/
def rIsEx (K : PySem.W.Frag) (a : Addr) (cls : Value) (d : Option Addr) : List V → Hp → VK → Prop := fun xs H Q => ∃ D, cls = .ref D ∧ d = none ∧ ExcC K D ∧ rIsE K D a xs H Q
theorem call_isEx {X : Cx} {a : Addr} {cls : Value} {d : Option Addr} {oe : Obj} {pn : List (Addr × Obj)} (hz : Zc cls d oe) (hf : ∃ vs, oe.data = .fields vs) : CallR (X.suite a ((a, oe) :: pn)) (.builtin "isinstance") (rIsEx X.K a cls d) := by
  intro pins s σ H xs us Q I r h
  obtain ⟨D, rfl, rfl, C, h⟩ := h
  exact call_isE C hz hf pins s σ H xs us Q I r h
theorem k_isEx {K : PySem.W.Frag} {X : Cx} {a : Addr} {cls : Value} {d : Option Addr} {oe : Obj} {pn : List (Addr × Obj)} (h : X.K = K) (hz : Zc cls d oe) (hf : ∃ vs, oe.data = .fields vs) : CallR (X.suite a ((a, oe) :: pn)) (.builtin "isinstance") (rIsEx K a cls d) := h ▸ call_isEx hz hf
theorem kit_self {K : PySem.W.Frag} {C : Addr} : PySem.W.kitOne K (.ref C) (.ref C) = some true := by
  unfold PySem.W.kitOne
  rw [if_pos (by simp)]
theorem kit_val {K : PySem.W.Frag} {C : Addr} (h : PySem.W.subIn K (.ref C) (.type "ValueError") = some true) : PySem.W.kitOne K (.ref C) (.type "ValueError") = some true := by
  unfold PySem.W.kitOne
  rw [if_neg (by simp)]
  show (if PySem.W.kitMeta "ValueError" = true then PySem.W.subIn K (.ref C) (.type "ValueError") else none) = some true
  rw [if_pos (by decide +kernel)]
  exact h
section
variable {P : Program} {w : World} {K : PySem.W.Frag} {mg : Str → Option Value} {base : Heap}
/-- a def that may raise, by its body -/
theorem fn_X {x qual : Str} {st : Stmt} {f : Addr} {fd : FuncData} {N ps : List Str} {k : Nat} {sp : Sp} (F : Fun K x qual st f fd) (S : FnScope N ps (defScope st)) (len : ∀ vs H Q E, sp vs H Q E → vs.length = ps.length)
    (body : ∀ (cdv : Value) (Γ : Around) (below : List Env) (s : Shared) (H : Hp) (vs : List V) (Q : VK) (E : XK), Γ.guards = some [] → Room k (Γ.deeper (envOfC qual (defScope st) s.heap.objs.size f cdv)) → sp vs H Q E →
      ∃ t, PSs (cxOf (L2.CX P w) P w K mg base N qual (defScope st) f cdv Γ below s H E) (defBody st) t ∧ t { nx := fun _ H' => Q .non H', rt := Q } (start N vs) H) : FnG P w K mg base (L2.CX P w) (k + 1) f fd ps sp := by
  obtain ⟨oc, od, kV, doc, pm, an, cdv, ct, osl, rfl, lk, hcd⟩ := F.ex
  refine fnG_of lk hcd S len (fun Γ below s H vs Q E hg hr h => ?_)
  exact body cdv Γ below s H vs Q E hg hr h
end
/-- a promise: a tuple of two lists of one's own, or the error C -/
def spS (C : Addr) (g : List Dt → Option (List Int × List Int) → Prop) : Sp := fun vs H Q E => ∃ B as o, Ex B H ∧ RA B vs as ∧ g as o ∧
  (∀ x, o = some x → ∀ (t : Addr) (e : Pr) B2 H2, New B H B2 H2 → PrOk H B2 H2 (.ref t) e → e.p ≠ e.q → (e.r, e.c) = x → Q (.ref t) H2) ∧ (o = none → ∀ H2, Ex H H2 → E (.ref C) none H2)
section
variable {K : PySem.W.Frag} {σ : L2.St} {B B' H : Hp} {ta tb te : TE} {ds : List Dt} {D : Ends} {H0 : Hp} {p : Addr}
/-- xs * n, a list of one's own -/
theorem el_rep {n : Int} (h : EvR ta σ B (.lst ds)) (hi : EvR tb σ B (.int n)) (hn : 0 ≤ n ∧ n ≤ 1000) (hd : ds.length ≤ 10) : EvL (tOp rRep ta tb) σ B (List.replicate n.toNat ds).flatten := fun H1 e Q q =>
  h H1 e _ fun v B2 H2 n1 rv => (hi.mono n1.ext) H2 n1.sub _ fun w B3 H3 n2 rw => by
    cases rw
    obtain ⟨a, vs, rfl, hp, ra⟩ := rv.lst_inv
    have N := n1.trans n2
    refine ⟨a, n, vs, rfl, rfl, N.sub _ _ (n2.ext _ _ hp), by omega, by omega, ?_, fun l hl => ?_⟩
    · have h1 : vs.length * n.toNat ≤ 10 * 1000 := Nat.mul_le_mul (by rw [ra.len]; exact hd) (by omega)
      rw [sizeLine_eq]
      omega
    · exact q l _ B3 _ ⟨N.ext, Evl.Ex.mut N.sub (fresh_back N.sub hl), Evl.Ex.mut N.heap (fresh_back N.heap hl), N.fresh⟩ ⟨fresh_back N.heap hl, fresh_back N.sub hl, upd_same⟩ ((ra.mono n2.ext).flat n.toNat)
/-- a tuple of two lists of one's own -/
theorem ep_tup {x : List Int × List Int} {H : Hp} {Q : VK} (e : Ex B H) (h1 : EvL ta σ B (x.1.map .int)) (h2 : EvL tb σ B (x.2.map .int)) (q : ∀ (t : Addr) (e : Pr) B2 H2, New B H B2 H2 → PrOk H B2 H2 (.ref t) e → e.p ≠ e.q → (e.r, e.c) = x → Q (.ref t) H2) :
    tTup (tCons ta (tCons tb tNil)) σ H Q := by
  refine h1 H e _ fun p us B4 H4 n4 o4 ra4 => ?_
  have eus := ra4.ints_inv
  subst eus
  have h2' : EvL tb σ B4 (x.2.map .int) := fun H1 e1 Q q => h2 H1 (n4.ext.trans e1) Q fun p vs B2 H2 n o ra => q p vs (join B4 B2) H2 ⟨join_l, join_sub (e1.trans n.heap) n.sub, n.heap, fun p h1 h2 => by
    unfold join
    rw [h1]
    exact n.fresh p (fresh_back n4.ext h1) h2⟩ ⟨o.h0, by
    unfold join
    have : B4 p = none := fresh_back e1 o.h0
    rw [this]
    exact o.b, o.h⟩ (ra.mono (join_r (e1.trans n.heap) n.sub))
  refine h2' H4 n4.sub _ fun q' us B5 H5 n5 o5 ra5 => ?_
  have eus := ra5.ints_inv
  subst eus
  refine ⟨sz_of (by simp), fun t ht => ?_⟩
  have n45 := n4.trans n5
  have n6 : New B H (upd B5 t (.tup [.ref p, .ref q'])) (upd H5 t (.tup [.ref p, .ref q'])) := n45.trans (New.one n5.sub ht)
  have pt : p ≠ t := fun z => by subst z; rw [(o4.step n5).h] at ht; cases ht
  have qt : q' ≠ t := fun z => by subst z; rw [o5.h] at ht; cases ht
  have pq : p ≠ q' := fun z => by have := o5.h0; rw [← z, o4.h] at this; cases this
  exact q t ⟨p, q', x.1, x.2⟩ _ _ n6 ⟨⟨t, rfl, upd_same⟩, ⟨o4.h0, by rw [upd_ne pt]; exact (o4.step n5).b, by rw [upd_ne pt]; exact (o4.step n5).h⟩, ⟨fresh_back n4.heap o5.h0, by rw [upd_ne qt]; exact o5.b, by rw [upd_ne qt]; exact o5.h⟩⟩ pq rfl
end
section
variable {K : PySem.W.Frag} {σ : L2.St} {B B' H H0 : Hp} {ta tb te : TE} {tl tk : TA} {ds xs zs : List Dt} {D : Ends}
theorem PrOk.back {H1 : Hp} {v : V} {e : Pr} (h : Ex H0 H1) (o : PrOk H1 B H v e) : PrOk H0 B H v e := ⟨o.t, ⟨fresh_back h o.p.h0, o.p.b, o.p.h⟩, ⟨fresh_back h o.q.h0, o.q.b, o.q.h⟩⟩
theorem PrOk.data {t : Addr} {e : Pr} (e0 : Ex B H) (o : PrOk H0 B H (.ref t) e) : R (gB B H [e.p, e.q]) (.ref t) (eSet e.r e.c) := by
  have h := Prs.data (as := [e.p, e.q]) e0 (es := [e]) (fun _ h => h) (fun a h => by
    rcases List.mem_cons.mp h with z | z
    · rw [z]; exact o.p.b
    · rw [List.mem_singleton.mp z]; exact o.q.b) (.cons o .nil)
  cases h with | cons a b => exact a
theorem PrOk.outs {t : Addr} {e : Pr} (o : PrOk H0 B H (.ref t) e) : ∀ a ∈ [e.p, e.q], H0 a = none ∧ B a = none := fun a h => by
  rcases List.mem_cons.mp h with z | z
  · rw [z]; exact ⟨o.p.h0, o.p.b⟩
  · rw [List.mem_singleton.mp z]; exact ⟨o.q.h0, o.q.b⟩
/-- such a call, where no error is due -/
theorem ev_lsK {C : Addr} {g : List Dt → Option (List Int × List Int) → Prop} {gV : List V → List V → List V} {gD : List Dt → List Dt → List Dt} {x : List Int × List Int} (h : EvRA tl σ B xs) (hk : EvRA tk σ B zs) (rel : ∀ B vs ws as bs, RA B vs as → RA B ws bs → as.length = xs.length → bs.length = zs.length → RA B (gV vs ws) (gD as bs)) (hg : g (gD xs zs) (some x)) :
    EvR (tCallK (spS C g) gV (fun _ _ _ => False) tl tk) σ B (eSet x.1 x.2) := fun H1 e Q q => h H1 e _ fun vs B1 H2 n ra => (hk.mono n.ext) H2 n.sub _ fun ws B2 H3 n2 rb =>
  ⟨B2, _, some x, n2.sub, rel B2 vs ws xs zs (ra.mono n2.ext) rb rfl rfl, hg, fun y hy t e' B3 H4 n3 ok ne hx => by
    cases hy
    subst hx
    exact q _ _ H4 (((n.trans n2).trans n3).giveA (ok.back (n.trans n2).heap).outs) (ok.data n3.sub), fun z => nomatch z⟩
/-- isinstance(e, c) in the suite -/
theorem ec_isE {a C : Addr} {n : Nat} {c : V} {cv : Value} {b : Bool} (h : σ[n]? = some (some (.ref a))) (i : ExcC K C) (hcv : ∀ u, RelV c u → u = cv) (hk : PySem.W.kitOne K (.ref C) cv = some b) : EvC (tB (tCB (rIsEx K a (.ref C) none) (tCons (tVar n) (tCons (tC c) tNil)))) σ B b := fun H1 e Q q =>
  ⟨_, h, C, rfl, rfl, i, c, cv, b, rfl, hcv, hk, b, rfl, q H1 (Evl.Ex.refl _)⟩
/-- a promise: a tuple of two lists of one's own, or the text -/
def spO (s : Str) (g : List Dt → Option (List Int × List Int) → Prop) : Sp := fun vs H Q _ => ∃ B as o, Ex B H ∧ RA B vs as ∧ g as o ∧
  (∀ x, o = some x → ∀ (t : Addr) (e : Pr) B2 H2, New B H B2 H2 → PrOk H B2 H2 (.ref t) e → e.p ≠ e.q → (e.r, e.c) = x → Q (.ref t) H2) ∧ (o = none → ∀ H2, Ex H H2 → Q (.str s) H2)
end
end U

namespace U
inductive Wk (F : List Fa) : Nat → Int → Int → Prop
  | nil (v : Int) : Wk F 0 v 0
  | cons {f : Fa} {k : Nat} {s : Int} : f ∈ F → Wk F k f.j s → Wk F (k + 1) f.i (f.l + s)
def FOk (n : Nat) (F : List Fa) : Prop := ∀ f ∈ F, 0 ≤ f.i ∧ f.i < n ∧ 0 ≤ f.j ∧ f.j < n ∧ -6 ≤ f.l ∧ f.l ≤ 6
structure NoR (F : List Fa) : Prop where
  c1 : ∀ f ∈ F, f.i = f.j → f.l ≤ 0
  c2 : ∀ f ∈ F, ∀ g ∈ F, f.j = g.i → g.j = f.i → f.l + g.l ≤ 0
  c3 : ∀ f ∈ F, ∀ g ∈ F, ∀ h ∈ F, f.j = g.i → g.j = h.i → h.j = f.i → f.l + g.l + h.l ≤ 0
theorem Wk.inv {F : List Fa} {k : Nat} {v s : Int} (w : Wk F (k + 1) v s) : ∃ f s1, f ∈ F ∧ v = f.i ∧ s = f.l + s1 ∧ Wk F k f.j s1 := by
  cases w with
  | cons h w => exact ⟨_, _, h, rfl, rfl, w⟩
theorem wk_short {n : Nat} {F : List Fa} (ok : FOk n F) (h1 : 1 ≤ n) (h3 : n ≤ 3) (nr : NoR F) : ∀ (m k : Nat) (v s : Int), k ≤ m → Wk F k v s → ∃ k' s', k' ≤ n - 1 ∧ s ≤ s' ∧ Wk F k' v s'
  | 0, k, v, s, hk, w => ⟨k, s, by omega, Int.le_refl _, w⟩
  | m + 1, k, v, s, hk, w => by
    have again : ∀ (k2 : Nat) (s2 : Int), k2 ≤ m → s ≤ s2 → Wk F k2 v s2 → ∃ k' s', k' ≤ n - 1 ∧ s ≤ s' ∧ Wk F k' v s' := fun k2 s2 h2 hs w2 => by
      obtain ⟨k', s', a, b, c⟩ := wk_short ok h1 h3 nr m k2 v s2 h2 w2
      exact ⟨k', s', a, by omega, c⟩
    by_cases hs : k ≤ n - 1
    · exact ⟨k, s, hs, Int.le_refl _, w⟩
    obtain ⟨k1, rfl⟩ : ∃ k1, k = k1 + 1 := ⟨k - 1, by omega⟩
    obtain ⟨f, s1, hf, rfl, rfl, w1⟩ := w.inv
    have of := ok f hf
    by_cases e1 : f.i = f.j
    · have := nr.c1 f hf e1
      exact again k1 s1 (by omega) (by omega) (e1 ▸ w1)
    have hn1 : n ≠ 1 := fun z => e1 (by omega)
    obtain ⟨k2, rfl⟩ : ∃ k2, k1 = k2 + 1 := ⟨k1 - 1, by omega⟩
    obtain ⟨g, s2, hg, eg, rfl, w2⟩ := w1.inv
    have og := ok g hg
    by_cases e2 : g.i = g.j
    · have := nr.c1 g hg e2
      exact again (k2 + 1) (f.l + s2) (by omega) (by omega) (.cons hf (by rw [eg, e2]; exact w2))
    by_cases e3 : f.i = g.j
    · have := nr.c2 f hf g hg eg e3.symm
      exact again k2 s2 (by omega) (by omega) (e3 ▸ w2)
    have hn2 : n ≠ 2 := fun z => by omega
    obtain ⟨k3, rfl⟩ : ∃ k3, k2 = k3 + 1 := ⟨k2 - 1, by omega⟩
    obtain ⟨h, s3, hh, eh, rfl, w3⟩ := w2.inv
    have oh := ok h hh
    by_cases e4 : h.i = h.j
    · have := nr.c1 h hh e4
      exact again (k3 + 2) (f.l + (g.l + s3)) (by omega) (by omega) (.cons hf (by rw [eg]; exact .cons hg (by rw [eh, e4]; exact w3)))
    by_cases e5 : g.i = h.j
    · have := nr.c2 g hg h hh eh e5.symm
      exact again (k3 + 1) (f.l + s3) (by omega) (by omega) (.cons hf (by rw [eg, e5]; exact w3))
    by_cases e6 : f.i = h.j
    · have := nr.c3 f hf g hg h hh eg eh e6.symm
      exact again k3 s3 (by omega) (by omega) (e6 ▸ w3)
    exfalso
    omega
def vl (v : List Int) (x : Int) : Int := v.getD x.toNat 0
/-- one fact looked at -/
def stp (v : List Int) (f : Fa) : List Int := v.set f.i.toNat (if vl v f.j + f.l < vl v f.i then vl v f.i else vl v f.j + f.l)
def rnds (n : Nat) (F : List Fa) : Nat → List Int
  | 0 => List.replicate n 0
  | k + 1 => F.foldl stp (rnds n F k)
theorem stp_len (v : List Int) (f : Fa) : (stp v f).length = v.length := by unfold stp; rw [List.length_set]
theorem vl_set {v : List Int} {i : Int} {z x : Int} (h0 : 0 ≤ i) (h1 : i < v.length) (hx : 0 ≤ x) : vl (v.set i.toNat z) x = if x = i then z else vl v x := by
  unfold vl
  rw [List.getD_eq_getElem?_getD, List.getD_eq_getElem?_getD, List.getElem?_set]
  by_cases h : x = i
  · subst h
    rw [if_pos rfl, if_pos (by omega), if_pos rfl]; rfl
  · rw [if_neg (by omega), if_neg h]
theorem vl_stp {v : List Int} {f : Fa} {x : Int} (h0 : 0 ≤ f.i) (h1 : f.i < v.length) (hx : 0 ≤ x) : vl (stp v f) x = if x = f.i then (if vl v f.j + f.l < vl v f.i then vl v f.i else vl v f.j + f.l) else vl v x := vl_set h0 h1 hx
theorem stp_mono {v : List Int} {f : Fa} {x : Int} (h0 : 0 ≤ f.i) (h1 : f.i < v.length) (hx : 0 ≤ x) : vl v x ≤ vl (stp v f) x := by
  rw [vl_stp h0 h1 hx]
  split
  · rename_i e
    rw [e]
    split <;> omega
  · omega
section
variable {n : Nat} {F : List Fa}
theorem fold_len : ∀ (L : List Fa) (v : List Int), (L.foldl stp v).length = v.length
  | [], _ => rfl
  | f :: L, v => by rw [List.foldl_cons, fold_len L, stp_len]
theorem fold_mono (ok : FOk n F) : ∀ (L : List Fa) (v : List Int), (∀ f ∈ L, f ∈ F) → v.length = n → ∀ x : Int, 0 ≤ x → vl v x ≤ vl (L.foldl stp v) x
  | [], _, _, _, _, _ => Int.le_refl _
  | f :: L, v, hL, hv, x, hx => by
    have of := ok f (hL f List.mem_cons_self)
    have h1 := stp_mono (v := v) (f := f) (x := x) of.1 (by omega) hx
    have h2 := fold_mono ok L (stp v f) (fun g hg => hL g (List.mem_cons_of_mem _ hg)) (by rw [stp_len]; exact hv) x hx
    rw [List.foldl_cons]
    omega
theorem fold_ge (ok : FOk n F) : ∀ (L : List Fa) (v : List Int), (∀ f ∈ L, f ∈ F) → v.length = n → ∀ f ∈ L, vl v f.j + f.l ≤ vl (L.foldl stp v) f.i
  | [], _, _, _, _, h => by cases h
  | g :: L, v, hL, hv, f, hf => by
    have og := ok g (hL g List.mem_cons_self)
    have hL' : ∀ h ∈ L, h ∈ F := fun h hh => hL h (List.mem_cons_of_mem _ hh)
    have of := ok f (hL f hf)
    rw [List.foldl_cons]
    rcases List.mem_cons.mp hf with e | hf
    · subst e
      have h1 := fold_mono ok L (stp v f) hL' (by rw [stp_len]; exact hv) f.i of.1
      have h2 : vl v f.j + f.l ≤ vl (stp v f) f.i := by
        rw [vl_stp of.1 (by omega) of.1, if_pos rfl]
        split <;> omega
      omega
    · have h1 := fold_ge ok L (stp v g) hL' (by rw [stp_len]; exact hv) f hf
      have h2 := stp_mono (v := v) (f := g) (x := f.j) og.1 (by omega) of.2.2.1
      omega
theorem fold_wk (ok : FOk n F) : ∀ (L : List Fa) (v : List Int), (∀ f ∈ L, f ∈ F) → v.length = n → (∀ x : Int, 0 ≤ x → x < n → ∃ k, Wk F k x (vl v x)) → ∀ x : Int, 0 ≤ x → x < n → ∃ k, Wk F k x (vl (L.foldl stp v) x)
  | [], _, _, _, h => h
  | f :: L, v, hL, hv, h => by
    rw [List.foldl_cons]
    have fm := hL f List.mem_cons_self
    have of := ok f fm
    refine fold_wk ok L (stp v f) (fun g hg => hL g (List.mem_cons_of_mem _ hg)) (by rw [stp_len]; exact hv) fun x h0 h1 => ?_
    rw [vl_stp of.1 (by omega) h0]
    by_cases e : x = f.i
    · rw [if_pos e]
      split
      · rw [← e]; exact h x h0 h1
      · obtain ⟨k, w⟩ := h f.j of.2.2.1 of.2.2.2.1
        refine ⟨k + 1, ?_⟩
        rw [e, Int.add_comm]
        exact .cons fm w
    · rw [if_neg e]; exact h x h0 h1
theorem vl_zero (x : Int) : vl (List.replicate n 0) x = 0 := by
  unfold vl
  rw [List.getD_eq_getElem?_getD, List.getElem?_replicate]
  split <;> rfl
theorem rnds_ok (ok : FOk n F) : ∀ r, (rnds n F r).length = n ∧ (∀ x : Int, 0 ≤ x → x < n → ∃ k, Wk F k x (vl (rnds n F r) x)) ∧ ∀ (k : Nat) (x s : Int), 0 ≤ x → k ≤ r → Wk F k x s → s ≤ vl (rnds n F r) x
  | 0 => ⟨by rw [rnds, List.length_replicate], fun x _ _ => ⟨0, by rw [rnds, vl_zero]; exact .nil x⟩, fun k x s _ hk w => by
    have e : k = 0 := by omega
    subst e
    cases w
    rw [rnds, vl_zero]; omega⟩
  | r + 1 => by
    obtain ⟨h1, h2, h3⟩ := rnds_ok ok r
    have hF : ∀ f ∈ F, f ∈ F := fun _ h => h
    refine ⟨by rw [rnds, fold_len]; exact h1, fold_wk ok F _ hF h1 h2, fun k x s hx hk w => ?_⟩
    rw [rnds]
    cases k with
    | zero =>
      have a := h3 0 x s hx (by omega) w
      have b := fold_mono ok F (rnds n F r) hF h1 x hx
      omega
    | succ k =>
      obtain ⟨f, s1, hf, rfl, rfl, w1⟩ := w.inv
      have of := ok f hf
      have a := h3 k f.j s1 of.2.2.1 (by omega) w1
      have b := fold_ge ok F (rnds n F r) hF h1 f hf
      omega
theorem wk_le (ok : FOk n F) : ∀ {k : Nat} {v s : Int}, Wk F k v s → s ≤ 6 * k
  | _, _, _, .nil _ => by omega
  | _, _, _, .cons (k := k) (s := s) h w => by
    have := wk_le ok w
    have := ok _ h
    omega
/-- a row keeps the facts -/
def Kp (F : List Fa) (c : List Int) : Prop := ∀ f ∈ F, vl c f.j + f.l ≤ vl c f.i
theorem wk_kp {c : List Int} (kp : Kp F c) (pos : ∀ x, 0 ≤ vl c x) : ∀ {k : Nat} {v s : Int}, Wk F k v s → s ≤ vl c v
  | _, _, _, .nil v => pos v
  | _, _, _, .cons h w => by
    have h1 := wk_kp kp pos w
    have h2 := kp _ h
    omega
def bf (n : Nat) (F : List Fa) : List Int := rnds n F (n - 1)
/-- what the least row is -/
structure Best (n : Nat) (F : List Fa) (b : List Int) : Prop where
  len : b.length = n
  kp : Kp F b
  lo : ∀ x, 0 ≤ vl b x
  hi : ∀ x, vl b x ≤ 6 * ((n : Int) - 1)
  least : ∀ c : List Int, Kp F c → (∀ x, 0 ≤ vl c x) → ∀ x, vl b x ≤ vl c x
  zero : ∃ i : Nat, b[i]? = some 0
theorem vl_out {b : List Int} {x : Int} (h : (b.length : Int) ≤ x) : vl b x = 0 := by
  unfold vl
  rw [List.getD_eq_getElem?_getD, List.getElem?_eq_none (by omega)]; rfl
theorem vl_neg {b : List Int} {x : Int} (h : x ≤ 0) : vl b x = vl b 0 := by
  unfold vl
  rw [show x.toNat = (0 : Int).toNat by omega]
theorem best (ok : FOk n F) (h1 : 1 ≤ n) (h3 : n ≤ 3) (nr : NoR F) : Best n F (bf n F) := by
  obtain ⟨l1, l2, l3⟩ := rnds_ok ok (n - 1)
  have lo0 : ∀ x : Int, 0 ≤ x → 0 ≤ vl (bf n F) x := fun x hx => l3 0 x 0 hx (by omega) (.nil x)
  have lo : ∀ x, 0 ≤ vl (bf n F) x := fun x => by
    by_cases h : 0 ≤ x
    · exact lo0 x h
    · rw [vl_neg (by omega)]; exact lo0 0 (by omega)
  have kp : Kp F (bf n F) := fun f hf => by
    have of := ok f hf
    obtain ⟨k, w⟩ := l2 f.j of.2.2.1 of.2.2.2.1
    obtain ⟨k', s', a, b, w'⟩ := wk_short ok h1 h3 nr (k + 1) (k + 1) f.i _ (Nat.le_refl _) (Wk.cons hf w)
    have := l3 k' f.i s' of.1 a w'
    unfold bf
    omega
  have least : ∀ c : List Int, Kp F c → (∀ x, 0 ≤ vl c x) → ∀ x, vl (bf n F) x ≤ vl c x := fun c kc pc x => by
    have main : ∀ x : Int, 0 ≤ x → vl (bf n F) x ≤ vl c x := fun x h0 => by
      by_cases hx : x < n
      · obtain ⟨k, w⟩ := l2 x h0 hx
        exact wk_kp kc pc w
      · rw [vl_out (by unfold bf; omega)]; exact pc x
    by_cases h : 0 ≤ x
    · exact main x h
    · rw [vl_neg (by omega), vl_neg (b := c) (by omega)]; exact main 0 (by omega)
  refine ⟨l1, kp, lo, fun x => ?_, least, ?_⟩
  · have main : ∀ x : Int, 0 ≤ x → vl (bf n F) x ≤ 6 * ((n : Int) - 1) := fun x h0 => by
      by_cases hx : x < n
      · obtain ⟨k, w⟩ := l2 x h0 hx
        obtain ⟨k', s', a, b, w'⟩ := wk_short ok h1 h3 nr k k x _ (Nat.le_refl _) w
        have := wk_le ok w'
        unfold bf
        omega
      · rw [vl_out (by unfold bf; omega)]; omega
    by_cases h : 0 ≤ x
    · exact main x h
    · rw [vl_neg (by omega)]; exact main 0 (by omega)
  · refine Classical.byContradiction fun hno => ?_
    have all1 : ∀ x : Int, 0 ≤ x → x < n → 1 ≤ vl (bf n F) x := fun x h0 hx => by
      have a := lo x
      refine Classical.byContradiction fun z => hno ⟨x.toNat, ?_⟩
      have e : vl (bf n F) x = 0 := by omega
      unfold vl at e
      rw [List.getD_eq_getElem?_getD, List.getElem?_eq_getElem (by unfold bf; omega)] at e
      rw [List.getElem?_eq_getElem (by unfold bf; omega)]
      exact congrArg some e
    have vm : ∀ x : Int, 0 ≤ x → x < n → vl ((bf n F).map (· - 1)) x = vl (bf n F) x - 1 := fun x h0 hx => by
      unfold vl
      rw [List.getD_eq_getElem?_getD, List.getD_eq_getElem?_getD, List.getElem?_map, List.getElem?_eq_getElem (by unfold bf; omega)]; rfl
    have c0 := least ((bf n F).map (· - 1)) (fun f hf => by
      have of := ok f hf
      have := kp f hf
      rw [vm f.j of.2.2.1 of.2.2.2.1, vm f.i of.1 of.2.1]
      omega) (fun x => by
      have main : ∀ x : Int, 0 ≤ x → 0 ≤ vl ((bf n F).map (· - 1)) x := fun x h0 => by
        by_cases hx : x < n
        · rw [vm x h0 hx]; have := all1 x h0 hx; omega
        · rw [vl_out (by rw [List.length_map]; unfold bf; omega)]; omega
      by_cases h : 0 ≤ x
      · exact main x h
      · rw [vl_neg (by omega)]; exact main 0 (by omega)) 0
    rw [vm 0 (by omega) (by omega)] at c0
    omega
end
/-! ### all rows, one after another -/
abbrev rI' (r : List Nat) : List Int := r.map fun k : Nat => (k : Int)
def lsts (M : Nat) : Nat → List (List Nat)
  | 0 => [[]]
  | k + 1 => (lsts M k).flatMap fun row => (List.range (M + 1)).map fun v => row ++ [v]
def ltR : List Nat → List Nat → Bool
  | x :: xs, y :: ys => decide (x < y) || (decide (x = y) && ltR xs ys)
  | _, _ => false
theorem lsts_len {M : Nat} : ∀ k, ∀ r ∈ lsts M k, r.length = k
  | 0, r, h => by rw [List.mem_singleton.mp h]; rfl
  | k + 1, r, h => by
    obtain ⟨q, hq, h⟩ := List.mem_flatMap.mp h
    obtain ⟨v, _, rfl⟩ := List.mem_map.mp h
    rw [List.length_append, lsts_len k q hq]; rfl
theorem lsts_le {M : Nat} : ∀ k, ∀ r ∈ lsts M k, ∀ x ∈ r, x ≤ M
  | 0, r, h, x, hx => by rw [List.mem_singleton.mp h] at hx; cases hx
  | k + 1, r, h, x, hx => by
    obtain ⟨q, hq, h⟩ := List.mem_flatMap.mp h
    obtain ⟨v, hv, rfl⟩ := List.mem_map.mp h
    rcases List.mem_append.mp hx with hx | hx
    · exact lsts_le k q hq x hx
    · rw [List.mem_singleton.mp hx]; have := List.mem_range.mp hv; omega
theorem lsts_many (M : Nat) : ∀ k, (lsts M k).length = (M + 1) ^ k
  | 0 => rfl
  | k + 1 => by
    rw [lsts, List.length_flatMap]
    have : ∀ l : List (List Nat), (l.map fun a => ((List.range (M + 1)).map fun v => a ++ [v]).length).sum = l.length * (M + 1) := fun l => by
      induction l with
      | nil => simp
      | cons a l ih => rw [List.map_cons, List.sum_cons, ih, List.length_map, List.length_range, List.length_cons, Nat.succ_mul, Nat.add_comm]
    rw [this, lsts_many M k, Nat.pow_succ]
theorem lsts_mem {M : Nat} : ∀ (k : Nat) (r : List Nat), r.length = k → (∀ x ∈ r, x ≤ M) → r ∈ lsts M k
  | 0, r, h, _ => by rw [List.length_eq_zero_iff.mp h]; exact List.mem_singleton.mpr rfl
  | k + 1, r, h, hx => by
    have hne : r ≠ [] := fun z => by rw [z] at h; cases h
    refine List.mem_flatMap.mpr ⟨r.dropLast, lsts_mem k _ (by rw [List.length_dropLast]; omega) fun x hm => hx x ((List.dropLast_sublist r).subset hm), List.mem_map.mpr ⟨r.getLast hne, List.mem_range.mpr (by have := hx _ (List.getLast_mem hne); omega), List.dropLast_concat_getLast hne⟩⟩
theorem ltR_snoc : ∀ {a b : List Nat} {x y : Nat}, a.length = b.length → (ltR a b = true ∨ (a = b ∧ x < y)) → ltR (a ++ [x]) (b ++ [y]) = true
  | [], [], x, y, _, h => by
    rcases h with h | h
    · simp [ltR] at h
    · simp [ltR, h.2]
  | [], _ :: _, _, _, h, _ => by cases h
  | _ :: _, [], _, _, h, _ => by cases h
  | p :: a, q :: b, x, y, hl, h => by
    rw [List.cons_append, List.cons_append, ltR]
    rcases h with h | ⟨h, hxy⟩
    · rw [ltR, Bool.or_eq_true, Bool.and_eq_true, decide_eq_true_eq, decide_eq_true_eq] at h
      rcases h with h | ⟨h, k⟩
      · rw [decide_eq_true h]; rfl
      · rw [decide_eq_true h, ltR_snoc (by simpa using hl) (.inl k)]; simp
    · have e := List.cons.inj h
      rw [decide_eq_true e.1, ltR_snoc (by simpa using hl) (.inr ⟨e.2, hxy⟩)]; simp
theorem lsts_pw (M : Nat) : ∀ k, (lsts M k).Pairwise fun a b => ltR a b = true
  | 0 => by simp [lsts]
  | k + 1 => by
    have ih := lsts_pw M k
    have hl := lsts_len (M := M) k
    rw [lsts]
    generalize lsts M k = l at ih hl
    induction l with
    | nil => exact .nil
    | cons a l ih2 =>
      rw [List.flatMap_cons]
      have p := List.pairwise_cons.mp ih
      refine List.pairwise_append.mpr ⟨List.pairwise_map.mpr ?_, ih2 p.2 (fun r h => hl r (List.mem_cons_of_mem _ h)), fun x hx y hy => ?_⟩
      · exact List.pairwise_lt_range.imp fun h => ltR_snoc rfl (.inr ⟨rfl, h⟩)
      · obtain ⟨v, _, rfl⟩ := List.mem_map.mp hx
        obtain ⟨b, hb, hy⟩ := List.mem_flatMap.mp hy
        obtain ⟨u, _, rfl⟩ := List.mem_map.mp hy
        exact ltR_snoc (by rw [hl a List.mem_cons_self, hl b (List.mem_cons_of_mem _ hb)]) (.inl (p.1 b hb))
theorem ltR_no : ∀ {a b : List Nat}, (∀ i : Nat, b.getD i 0 ≤ a.getD i 0) → ltR a b = false
  | [], _, _ => by simp [ltR]
  | _ :: _, [], _ => by simp [ltR]
  | x :: a, y :: b, h => by
    have h0 : y ≤ x := h 0
    have ht : ∀ i : Nat, b.getD i 0 ≤ a.getD i 0 := fun i => h (i + 1)
    rw [ltR, ltR_no ht, decide_eq_false (by omega)]
    simp
theorem vl_rI (r : List Nat) (x : Int) : vl (rI' r) x = (r.getD x.toNat 0 : Nat) := by
  unfold vl
  rw [List.getD_eq_getElem?_getD, List.getD_eq_getElem?_getD, List.getElem?_map]
  cases r[x.toNat]? <;> rfl
instance {F : List Fa} {c : List Int} : Decidable (Kp F c) := by unfold Kp; infer_instance
/-- the rows that the law goes through -/
def cand (n : Nat) (F : List Fa) : List (List Nat) := ((lsts (6 * (n - 1)) n).filter fun r => r.contains 0).filter fun r => decide (Kp F (rI' r))
theorem cand_none {n : Nat} {F : List Fa} (h : ∀ c : List Int, ¬ Kp F c) : cand n F = [] :=
  List.filter_eq_nil_iff.mpr fun r _ z => h _ (of_decide_eq_true z)
theorem cand_first {n : Nat} {F : List Fa} (ok : FOk n F) (h1 : 1 ≤ n) (h3 : n ≤ 3) (nr : NoR F) : ∃ b rest, cand n F = b :: rest ∧ rI' b = bf n F := by
  have B := best ok h1 h3 nr
  have eb : rI' ((bf n F).map Int.toNat) = bf n F := by
    rw [rI', List.map_map]
    conv => rhs; rw [← List.map_id (bf n F)]
    refine List.map_congr_left fun x hx => ?_
    obtain ⟨i, hi⟩ := List.mem_iff_getElem?.mp hx
    have h := B.lo (i : Int)
    unfold vl at h
    rw [Int.toNat_natCast, List.getD_eq_getElem?_getD, hi] at h
    have h : 0 ≤ x := h
    show ((x.toNat : Nat) : Int) = x
    omega
  have hmem : (bf n F).map Int.toNat ∈ cand n F := by
    refine List.mem_filter.mpr ⟨List.mem_filter.mpr ⟨lsts_mem n _ (by rw [List.length_map]; exact B.len) fun x hx => ?_, ?_⟩, ?_⟩
    · obtain ⟨y, hy, rfl⟩ := List.mem_map.mp hx
      obtain ⟨i, hi⟩ := List.mem_iff_getElem?.mp hy
      have h := B.hi (i : Int)
      unfold vl at h
      rw [Int.toNat_natCast, List.getD_eq_getElem?_getD, hi] at h
      have h : y ≤ 6 * ((n : Int) - 1) := h
      omega
    · rw [List.contains_iff_mem]
      obtain ⟨i, hi⟩ := B.zero
      exact List.mem_map.mpr ⟨0, List.mem_of_getElem? hi, rfl⟩
    · rw [eb]; exact decide_eq_true B.kp
  have pw : (cand n F).Pairwise fun a b => ltR a b = true := ((lsts_pw (6 * (n - 1)) n).filter _).filter _
  cases e : cand n F with
  | nil => rw [e] at hmem; cases hmem
  | cons x rest =>
    refine ⟨x, rest, rfl, ?_⟩
    rw [e] at hmem pw
    rcases List.mem_cons.mp hmem with h | h
    · rw [← h]; exact eb
    · exfalso
      have lt := (List.pairwise_cons.mp pw).1 _ h
      have xk : Kp F (rI' x) := by
        have : x ∈ cand n F := by rw [e]; exact List.mem_cons_self
        exact of_decide_eq_true (List.mem_filter.mp this).2
      have le := B.least (rI' x) xk (fun y => by rw [vl_rI]; omega)
      rw [ltR_no] at lt
      · cases lt
      · intro i
        have h2 := le (i : Int)
        rw [vl_rI, Int.toNat_natCast, ← eb, vl_rI, Int.toNat_natCast] at h2
        omega
end U

namespace U
open PySem L2
open Evl (Ex fresh_back sz_of sz_lt sq_of st_of rLenS rListS)
theorem hu65 {k : Nat} {A : Around} (r : Room k A) : A.units + 65 < cLine := by have := r.un; omega
theorem k_notinD {X : Cx} {K : PySem.W.Frag} (h : X.K = K) (hu : X.A.units + 65 < cLine) : OpR X (compareOp .NotIn) (rNotInD K) := h ▸ op_notInD hu
theorem any_py (f : PyData → Bool) : ∀ ds : List Dt, (pyAll ds).any f = ds.any fun z => f z.py
  | [] => by simp [pyAll]
  | d :: ds => by rw [pyAll, List.any_cons, List.any_cons, any_py f ds]
theorem rv_notinD {K : PySem.W.Frag} {x : Dt} {ds : List Dt} (hx : SeqAt.shaped x.py = true) (hd : SeqAt.shaped (Dt.lst ds).py = true) : RV (rNotInD K) x (.lst ds) (.bl (!ds.any fun z => PyData.eqv z.py x.py)) := fun B H1 v w e r1 r2 Q q => by
  have h2 := (r2.mono e).dp (K := K) (shaped_cln hd)
  rw [Dt.py] at h2
  refine ⟨x.py, pyAll ds, (r1.mono e).dp (shaped_cln hx), h2, hx, by rw [Dt.py] at hd; exact hd, ?_⟩
  rw [any_py]
  exact q _ B H1 (New.refl e) (.bl _)
theorem eqv_set (a b c d : List Int) : PyData.eqv (eSet a b).py (eSet c d).py = (decide (a = c) && decide (b = d)) := by
  have e1 : (eSet a b).py = .tuple [(eI a).py, (eI b).py] := by simp only [Dt.py, pyAll]
  have e2 : (eSet c d).py = .tuple [(eI c).py, (eI d).py] := by simp only [Dt.py, pyAll]
  rw [e1, e2]
  simp only [PyData.eqv, PyData.eqvAll]
  rw [eqv_eI, eqv_eI, Bool.and_true]
theorem sets_lay : ∀ (l : List (List Int × List Int)), PyData.canLayAll0 (pyAll (l.map fun x => eSet x.1 x.2)) = true ∧ depAll (l.map fun x => eSet x.1 x.2) ≤ 2
  | [] => ⟨by simp [pyAll, PyData.canLayAll0], by simp [depAll]⟩
  | x :: l => by
    obtain ⟨h1, h2⟩ := sets_lay l
    refine ⟨?_, ?_⟩
    · rw [List.map_cons, pyAll, PyData.canLayAll0, h1, Dt.py, PyData.canLay0, pyAll, pyAll, pyAll, PyData.canLayAll0, PyData.canLayAll0, PyData.canLayAll0, Dt.py, Dt.py, PyData.canLay0, PyData.canLay0, canLay_ints, canLay_ints]; rfl
    · rw [List.map_cons, depAll, Dt.dep, depAll, depAll, depAll, Dt.dep, Dt.dep, depAll_ints, depAll_ints]; omega
theorem shaped_sets {l : List (List Int × List Int)} : SeqAt.shaped (Dt.lst (l.map fun x => eSet x.1 x.2)).py = true := by
  obtain ⟨h1, h2⟩ := sets_lay l
  unfold SeqAt.shaped
  rw [dep_py, Dt.dep, Dt.py, PyData.canLay0, h1]
  simp only [Bool.true_and, decide_eq_true_eq]
  omega
theorem shaped_set {a b : List Int} : SeqAt.shaped (eSet a b).py = true := by
  unfold SeqAt.shaped
  rw [dep_py, Dt.dep, depAll, depAll, depAll, Dt.dep, Dt.dep, depAll_ints, depAll_ints, Dt.py, PyData.canLay0, pyAll, pyAll, pyAll, PyData.canLayAll0, PyData.canLayAll0, PyData.canLayAll0, Dt.py, Dt.py, PyData.canLay0, PyData.canLay0, canLay_ints, canLay_ints]
  rfl
theorem toks_no : ∀ (a b : List Int), a.length = b.length → (∀ i : Nat, b.getD i 0 ≤ a.getD i 0) → PyProof.Rows.lexLt PyProof.Rows.itemOrd (PySem.W.keyToksAll (pyAll (a.map Dt.int))) (PySem.W.keyToksAll (pyAll (b.map Dt.int))) = false
  | [], [], _, _ => by
    have h := PySem.W.lex_pre (PySem.W.keyToksAll (pyAll (([] : List Int).map Dt.int))) [] []
    rw [List.append_nil] at h
    rw [h]; rfl
  | [], _ :: _, h, _ => by cases h
  | _ :: _, [], h, _ => by cases h
  | x :: a, y :: b, h, hp => by
    have hal : PySem.W.alike (Dt.int x).py (Dt.int y).py = true := by rw [Dt.py, Dt.py, PySem.W.alike]
    have h0 : y ≤ x := hp 0
    have ht : ∀ i : Nat, b.getD i 0 ≤ a.getD i 0 := fun i => hp (i + 1)
    rw [List.map_cons, List.map_cons, pyAll, pyAll]
    by_cases hxy : x = y
    · subst hxy
      rw [PySem.W.dataLt_all_yes hal (PySem.W.eqv_refl_alike _ hal)]
      exact toks_no a b (by simpa using h) ht
    · have hne : PyData.eqv (Dt.int x).py (Dt.int y).py = false := by
        have : PyData.eqvAll [(Dt.int x).py] [(Dt.int y).py] = false := by
          have h2 := eqv_ints [x] [y]
          rw [decide_eq_false (fun z => hxy (List.cons.inj z).1)] at h2
          exact h2
        rw [PyData.eqvAll, PyData.eqvAll, Bool.and_true] at this
        exact this
      rw [PySem.W.dataLt_all_no hal hne, Dt.py, Dt.py, PySem.W.dataLt_int]
      exact decide_eq_false (by omega)
theorem set_no {a b c d : List Int} (l1 : a.length = b.length) (l2 : c.length = d.length) (h1 : ∀ i : Nat, b.getD i 0 ≤ a.getD i 0) (h2 : ∀ i : Nat, d.getD i 0 ≤ c.getD i 0) : PySem.W.dataLt (eSet a c).py (eSet b d).py = false ∧ PySem.W.alike (eSet a c).py (eSet b d).py = true ∧ (eSet a c).py ≠ .none ∧ min (eSet a c).py.depth (eSet b d).py.depth ≤ 60 := by
  have e1 : (eSet a c).py = .tuple [(eI a).py, (eI c).py] := by simp only [Dt.py, pyAll]
  have e2 : (eSet b d).py = .tuple [(eI b).py, (eI d).py] := by simp only [Dt.py, pyAll]
  have al1 := alike_eI a b
  have al2 := alike_eI c d
  refine ⟨?_, ?_, by rw [e1]; simp, ?_⟩
  · rw [e1, e2, PySem.W.dataLt_tuple]
    by_cases hab : a = b
    · subst hab
      rw [PySem.W.dataLt_all_yes al1 (PySem.W.eqv_refl_alike _ al1)]
      by_cases hcd : c = d
      · subst hcd
        rw [PySem.W.dataLt_all_yes al2 (PySem.W.eqv_refl_alike _ al2)]
        have h := PySem.W.lex_pre (PySem.W.keyToksAll []) [] []
        rw [List.append_nil] at h
        rw [h]; rfl
      · rw [PySem.W.dataLt_all_no al2 (by rw [eqv_eI, decide_eq_false hcd]), Dt.py, Dt.py, PySem.W.dataLt_list]
        exact toks_no c d l2 h2
    · rw [PySem.W.dataLt_all_no al1 (by rw [eqv_eI, decide_eq_false hab]), Dt.py, Dt.py, PySem.W.dataLt_list]
      exact toks_no a b l1 h1
  · rw [e1, e2, PySem.W.alike, PySem.W.alikeAll, PySem.W.alikeAll, PySem.W.alikeAll, al1, al2]; rfl
  · rw [dep_py]
    have : (eSet a c).dep = 2 := by rw [Dt.dep, depAll, depAll, depAll, Dt.dep, Dt.dep, depAll_ints, depAll_ints]; rfl
    omega
/-! ### gaps -/
theorem clo_gap {w : Int} {ns : List Int} {f : Int → Int} (hf : IsClo w ns f) (hw : 0 ≤ w) : ∀ (n : Nat) (a b : Int), a ∈ ns → b ∈ ns → a ≤ b → (b - a).toNat ≤ n → min (b - a) (w + 1) ≤ f b - f a ∧ f b - f a ≤ b - a
  | 0, a, b, ha, hb, h, hn => by
    have : a = b := by omega
    subst this
    omega
  | n + 1, a, b, ha, hb, h, hn => by
    by_cases hab : a = b
    · subst hab; omega
    · cases hp : pre ns b with
      | none => have := pre_none hp a ha; omega
      | some c =>
        obtain ⟨h1, h2, h3⟩ := pre_some hp
        have hac : a ≤ c := by rcases h3 a ha with z | z <;> omega
        have e := hf.2 c h1 b hb h2 h3
        obtain ⟨i1, i2⟩ := clo_gap hf hw n a c ha h1 hac (by omega)
        omega
theorem clo_two {w : Int} {ns : List Int} (hw : 0 ≤ w) {a b : Int} (ha : a ∈ ns) (hb : b ∈ ns) : (a ≤ b → min (b - a) (w + 1) ≤ clo w ns b - clo w ns a ∧ clo w ns b - clo w ns a ≤ b - a) ∧ (b ≤ a → min (a - b) (w + 1) ≤ clo w ns a - clo w ns b ∧ clo w ns a - clo w ns b ≤ a - b) :=
  ⟨fun h => clo_gap (clo_is w ns) hw _ a b ha hb h (Nat.le_refl _), fun h => clo_gap (clo_is w ns) hw _ b a hb ha h (Nat.le_refl _)⟩
theorem cloR_getD {w : Int} {ns : List Int} {i : Nat} (h : i < ns.length) : (cloR w ns).getD i 0 = clo w ns (ns.getD i 0) := by
  rw [List.getD_eq_getElem?_getD, List.getD_eq_getElem?_getD, cloR, List.getElem?_map, List.getElem?_eq_getElem h]; rfl
theorem getD_mem {ns : List Int} {i : Nat} (h : i < ns.length) : ns.getD i 0 ∈ ns := by
  rw [List.getD_eq_getElem?_getD, List.getElem?_eq_getElem h]
  exact List.getElem_mem _
/-- differences of two places -/
theorem cloR_two {w : Int} {ns : List Int} (hw : 0 ≤ w) {i j : Nat} (hi : i < ns.length) (hj : j < ns.length) : (ns.getD i 0 ≤ ns.getD j 0 → min (ns.getD j 0 - ns.getD i 0) (w + 1) ≤ (cloR w ns).getD j 0 - (cloR w ns).getD i 0 ∧ (cloR w ns).getD j 0 - (cloR w ns).getD i 0 ≤ ns.getD j 0 - ns.getD i 0) ∧
    (ns.getD j 0 ≤ ns.getD i 0 → min (ns.getD i 0 - ns.getD j 0) (w + 1) ≤ (cloR w ns).getD i 0 - (cloR w ns).getD j 0 ∧ (cloR w ns).getD i 0 - (cloR w ns).getD j 0 ≤ ns.getD i 0 - ns.getD j 0) := by
  rw [cloR_getD hi, cloR_getD hj]
  exact clo_two hw (getD_mem hi) (getD_mem hj)
theorem cloR_lo {w : Int} {ns : List Int} (hw : 0 ≤ w) : ∀ x ∈ cloR w ns, 0 ≤ x := fun x hx => by
  obtain ⟨y, hy, rfl⟩ := List.mem_map.mp hx
  exact (clo_range (clo_is w ns) hw _ y hy (Nat.le_refl _)).1
theorem cloR_zero {w : Int} {ns : List Int} (hn : ns ≠ []) : (0 : Int) ∈ cloR w ns :=
  List.mem_map.mpr ⟨minL ns, minL_mem hn, (clo_is w ns).1 _ (minL_mem hn) fun _ h => minL_le h⟩
theorem cloR_min {w : Int} {ns : List Int} (hw : 0 ≤ w) (hn : ns ≠ []) : minL (cloR w ns) = 0 :=
  (minL_eq (cloR_zero hn) fun y hy => cloR_lo hw y hy).symm
theorem cloR_up {w : Int} {ns : List Int} (hw : 0 ≤ w) (i : Nat) : (cloR w ns).getD i 0 ≤ (ns.map fun v => v - minL ns).getD i 0 := by
  by_cases hi : i < ns.length
  · rw [cloR_getD hi]
    have h := (clo_range (clo_is w ns) hw _ _ (getD_mem hi) (Nat.le_refl _)).2
    have e : (ns.map fun v => v - minL ns).getD i 0 = ns.getD i 0 - minL ns := by
      rw [List.getD_eq_getElem?_getD, List.getD_eq_getElem?_getD, List.getElem?_map, List.getElem?_eq_getElem hi]; rfl
    rw [e]
    exact h
  · rw [List.getD_eq_getElem?_getD, List.getD_eq_getElem?_getD, List.getElem?_eq_none (by rw [cloR_len]; omega), List.getElem?_eq_none (by rw [List.length_map]; omega)]
    exact Int.le_refl _
end U

namespace U
open PySem L2
open Evl (Ex fresh_back sz_of sz_lt sq_of st_of rLenS rListS)
mutual
/-- no list or tuple in it is longer than 1,000 -/
def Dt.okz : Dt → Bool
  | .lst xs | .tup xs => decide (xs.length ≤ 1000) && okzAll xs
  | _ => true
def okzAll : List Dt → Bool
  | [] => true
  | x :: xs => Dt.okz x && okzAll xs
end
theorem okz_mem : ∀ {xs : List Dt} {x : Dt}, okzAll xs = true → x ∈ xs → x.okz = true
  | y :: xs, x, h, hm => by
    rw [okzAll, Bool.and_eq_true] at h
    rcases List.mem_cons.mp hm with e | e
    · rw [e]; exact h.1
    · exact okz_mem h.2 e
theorem okz_lst {xs : List Dt} (h : (Dt.lst xs).okz = true) : xs.length ≤ 1000 ∧ okzAll xs = true := by
  rw [Dt.okz, Bool.and_eq_true, decide_eq_true_eq] at h; exact h
theorem okz_tup {xs : List Dt} (h : (Dt.tup xs).okz = true) : xs.length ≤ 1000 ∧ okzAll xs = true := by
  rw [Dt.okz, Bool.and_eq_true, decide_eq_true_eq] at h; exact h
section
variable {K : PySem.W.Frag} {σ : L2.St} {B B' H : Hp} {ta te : TE} {tl : TA} {d : Dt} {ds : List Dt} {D : Ends} {j : Nat}
theorem cutFrom (vs : List V) (m : Int) (h : 0 ≤ m) : cutV vs (some m) none = vs.drop m.toNat := by
  obtain ⟨k, rfl⟩ := Int.eq_ofNat_of_zero_le h
  have e1 : HT.sIx vs.length vs.length none = vs.length := HT.sIx_none _ _
  have e2 : HT.sIx vs.length 0 (some (k : Int)) = min k vs.length := HT.sIx_nat _ _ k
  unfold cutV
  rw [e1]
  show ((vs.drop (HT.sIx vs.length 0 (some (k : Int)))).take (vs.length - HT.sIx vs.length 0 (some (k : Int)))) = _
  rw [e2, Int.toNat_natCast, List.take_of_length_le (by rw [List.length_drop]; omega)]
  by_cases h : k ≤ vs.length
  · rw [Nat.min_eq_left h]
  · rw [Nat.min_eq_right (by omega), List.drop_of_length_le (Nat.le_refl _), List.drop_of_length_le (by omega)]
/-- e[n:] -/
theorem ev_slFr {tb : TE} {m : Int} (h : EvR ta σ B (.lst ds)) (hi : EvR tb σ B (.int m)) (h0 : 0 ≤ m) : EvR (tSl (rSlL K) ta (tPart tb) tNoPart) σ B (.lst (ds.drop m.toNat)) := fun H1 e Q q =>
  h H1 e _ fun v B1 H2 n rv => (hi.mono n.ext) H2 n.sub _ fun w B2 H3 n2 rw => by
    obtain ⟨p, vs, rfl, hp, ra⟩ := rv.lst_inv
    have hp2 := n2.ext _ _ hp
    refine ⟨m, rw.int_inv, p, vs, rfl, sq_of (n2.sub _ _ hp2), fun p2 hp3 => ?_⟩
    rw [cutFrom vs m h0]
    exact q _ (upd B2 p2 (.lst (vs.drop m.toNat))) _ ((n.trans n2).trans (New.one n2.sub hp3)) (.lst upd_same (((ra.mono n2.ext).drop _).mono (Evl.Ex.new (fresh_back n2.sub hp3))))
/-- X('no') as a value -/
theorem ev_exc {C : Addr} (h : EvR ta σ B d) : EvR (fun σ H Q => ta σ H fun _ H1 => ∀ a, H1 a = none → Q (.ref a) (upd H1 a (ExO (.ref C) a))) σ B (.exc C) := fun H1 e Q q =>
  h H1 e _ fun v B2 H2 n rv a ha => q _ (upd B2 a (ExO (.ref C) a)) _ (n.trans (New.one n.sub ha)) (.exc upd_same)
theorem q_lcD {l : List Dt} {f : Dt → Dt} {vs : List Nat} (h : EvR ta σ B d) (it : Items d l) (hz : l.length < 100000) (hw : ∀ x, wipe ((wipe σ vs).set j (some x)) vs = wipe σ vs)
    (he : ∀ q v B1, q ∈ l → Ex B B1 → R B1 v q → EvR te ((wipe σ vs).set j (some v)) B1 (f q)) : EvR (tLc (iSeq K ta) (gName j) tYes te vs) σ B (.lst (l.map f)) :=
  q_lc1 (enc := fun x => x) h (by rw [List.map_id']; exact it) hz hw he
end
/-- a promise: nothing is returned, or the error C -/
def spE (C : Addr) (g : List Dt → Bool → Prop) : Sp := fun vs H Q E => ∃ B as b, Ex B H ∧ RA B vs as ∧ g as b ∧ (b = true → ∀ H2, Ex H H2 → Q .non H2) ∧ (b = false → ∀ H2, Ex H H2 → E (.ref C) none H2)
/-- a promise: a truth value, or the error C -/
def spB (C : Addr) (g : List Dt → Option Bool → Prop) : Sp := fun vs H Q E => ∃ B as o, Ex B H ∧ RA B vs as ∧ g as o ∧ (∀ b, o = some b → ∀ H2, Ex H H2 → Q (.bl b) H2) ∧ (o = none → ∀ H2, Ex H H2 → E (.ref C) none H2)
section
variable {σ : L2.St} {B H : Hp} {tl tk : TA} {xs zs : List Dt} {D : Ends} {C : Addr}
theorem ev_B {g : List Dt → Option Bool → Prop} {E : XK} {b : Bool} (h : EvRA tl σ B xs) (hg : g xs (some b)) : EvR (tCall (spB C g) [] E tl) σ B (.bl b) := fun H1 e Q q => h H1 e _ fun vs B1 H2 n ra =>
  ⟨B1, xs, some b, n.sub, by rw [List.append_nil]; exact ra, hg, fun c hc H3 e3 => by cases hc; exact q _ B1 H3 (n.trans (New.grow (n.sub.trans e3) e3 n.sub)) (.bl _), fun z => nomatch z⟩
theorem ev_BK {g : List Dt → Option Bool → Prop} {E : XK} {b : Bool} {gV : List V → List V → List V} {gD : List Dt → List Dt → List Dt} (h : EvRA tl σ B xs) (hk : EvRA tk σ B zs) (rel : ∀ B vs ws as bs, RA B vs as → RA B ws bs → as.length = xs.length → bs.length = zs.length → RA B (gV vs ws) (gD as bs)) (hg : g (gD xs zs) (some b)) :
    EvR (tCallK (spB C g) gV E tl tk) σ B (.bl b) := fun H1 e Q q => h H1 e _ fun vs B1 H2 n ra => (hk.mono n.ext) H2 n.sub _ fun ws B2 H3 n2 rb =>
  ⟨B2, _, some b, n2.sub, rel B2 vs ws xs zs (ra.mono n2.ext) rb rfl rfl, hg, fun c hc H4 e4 => by cases hc; exact q _ B2 H4 ((n.trans n2).trans (New.grow (n2.sub.trans e4) e4 n2.sub)) (.bl _), fun z => nomatch z⟩
/-- need_x(..) as a statement -/
theorem s_need {g : List Dt → Bool → Prop} {E : XK} {b : Bool} (e : Ex B H) (h : EvRA tl σ B xs) (hg : g xs b) (h1 : b = true → ∀ H1, Up B H H1 → D.nx σ H1) (h2 : b = false → ∀ H1, Ex H H1 → E (.ref C) none H1) : tDrop (tCall (spE C g) [] E tl) D σ H := h H e _ fun vs B1 H2 n ra =>
  ⟨B1, xs, b, n.sub, by rw [List.append_nil]; exact ra, hg, fun hb H3 e3 => h1 hb H3 ⟨e, (e.trans n.heap).trans e3, n.heap.trans e3⟩, fun hb H3 e3 => h2 hb H3 (n.heap.trans e3)⟩
end
end U

set_option maxHeartbeats 4000000
local macro_rules | `(tactic| walk_at "u_rr") => `(tactic| first
  | assumption | exact U.R.int _ | exact U.R.bl _ | exact U.R.str _ | exact U.R.non
  | (apply U.R.mono; (first | (apply U.New.ext; assumption) | assumption); walk_at "u_rr"))
local macro_rules | `(tactic| walk_at "u_side") => `(tactic| first | assumption | decide | omega | rfl | (simp; done) | (simp; omega))
local macro_rules | `(tactic| walk_at "u_rv") => `(tactic| first
  | with_reducible exact U.rv_add | with_reducible exact U.rv_inl U.rv_add | with_reducible exact U.rv_sub
  | with_reducible exact U.rv_lt | with_reducible exact U.rv_le | with_reducible exact U.rv_gt | with_reducible exact U.rv_ge
  | with_reducible exact U.rv_inl U.rv_eqI | with_reducible exact U.rv_inl U.rv_neI | with_reducible exact U.rv_inl U.rv_eqS | with_reducible exact U.rv_inl U.rv_neS
  | ((with_reducible refine' U.rv_mul ?_); (unfold L2.CMul; walk_at "u_side"))
  | ((with_reducible refine' U.rv_mod ?_); walk_at "u_side")
  | ((with_reducible refine' U.rv_div ?_); (unfold L2.CDiv; walk_at "u_side"))
  | ((with_reducible refine' U.rv_pow ?_); (unfold L2.CPow; walk_at "u_side"))
  | ((with_reducible refine' U.rv_shr ?_); walk_at "u_side")
  | ((with_reducible refine' U.rv_ixL ?_); walk_at "u_side")
  | ((with_reducible refine' U.rv_ixT ?_); walk_at "u_side")
  | ((with_reducible refine' U.rv_inr (U.rv_cat ?_)); walk_at "u_side")
  | ((with_reducible refine' U.rv_inr (U.rv_eqD ?_ ?_)) <;> walk_at "u_side")
  | ((with_reducible refine' U.rv_inr (U.rv_neD ?_ ?_)) <;> walk_at "u_side"))
local macro_rules | `(tactic| walk_at "u_rl") => `(tactic| first
  | with_reducible exact U.rl_lenL | with_reducible exact U.rl_lenT | with_reducible exact U.rl_list | with_reducible exact U.rl_listT | with_reducible exact U.rl_tuple
  | with_reducible exact U.rl_abs | with_reducible exact U.rl_int | with_reducible exact U.rl_max2 | with_reducible exact U.rl_min2
  | ((with_reducible refine' U.rl_reprD ?_ ?_); rfl; assumption)
  | with_reducible exact U.rl_all
  | ((with_reducible refine' U.rl_min ?_); walk_at "u_side"))
local macro_rules | `(tactic| walk_at "u_call") => `(tactic| fail)
local macro_rules | `(tactic| walk_at "u_lc") => `(tactic| fail)
local macro_rules | `(tactic| walk_at "u_ea") => `(tactic| first
  | with_reducible exact U.ea_nil
  | ((with_reducible refine' U.ea_cons ?ha ?hb); (case ha => walk_at "u_ev"); (case hb => walk_at "u_ea")))
local macro_rules | `(tactic| walk_at "u_ev") => `(tactic| first
  | ((with_reducible refine' U.ev_v ?ha ?hb); (case ha => rfl); (case hb => walk_at "u_rr"))
  | with_reducible exact U.ev_i | with_reducible exact U.ev_s | with_reducible exact U.ev_b | with_reducible exact U.ev_n
  | ((with_reducible refine' U.ev_isTy ?ha); (case ha => walk_at "u_ev"))
  | ((with_reducible refine' U.ev_isi ?ha ?hb); (case ha => walk_at "u_ev"); (case hb => decide +kernel))
  | ((with_reducible refine' U.ev_op ?ha ?hb ?hc); (case ha => walk_at "u_ev"); (case hb => walk_at "u_ev"); (case hc => walk_at "u_rv"))
  | ((with_reducible refine' U.ev_un ?ha ?hc); (case ha => walk_at "u_ev"); (case hc => with_reducible exact U.ru_neg))
  | ((with_reducible refine' U.ev_cb ?ha ?hc); (case ha => walk_at "u_ea"); (case hc => walk_at "u_rl"))
  | ((with_reducible refine' U.ev_tup ?ha ?hc); (case ha => walk_at "u_ea"); (case hc => walk_at "u_side"))
  | ((with_reducible refine' U.ev_lst ?ha ?hc); (case ha => walk_at "u_ea"); (case hc => walk_at "u_side"))
  | ((with_reducible refine' U.ev_and ?ha ?hc); (case ha => walk_at "u_ev"); (case hc => (intro _; walk_at "u_ev")))
  | ((with_reducible refine' U.ev_or ?ha ?hc); (case ha => walk_at "u_ev"); (case hc => (intro _; walk_at "u_ev")))
  | ((with_reducible refine' U.ev_not ?ha); (case ha => walk_at "u_ev"))
  | ((with_reducible refine' U.ev_ifI ?ha ?hb ?hc); (case ha => walk_at "u_ec"); (case hb => walk_at "u_ev"); (case hc => walk_at "u_ev"))
  | ((with_reducible refine' U.ev_call ?ha ?hb); (case ha => walk_at "u_ea"); (case hb => walk_at "u_call"))
  | walk_at "u_lc")
local macro_rules | `(tactic| walk_at "u_ec") => `(tactic| first
  | ((with_reducible refine' U.ec_t ?ha); (case ha => walk_at "u_ev"))
  | ((with_reducible refine' U.ec_v ?ha); (case ha => walk_at "u_ev"))
  | ((with_reducible refine' U.ec_and ?ha ?hc); (case ha => walk_at "u_ec"); (case hc => (intro _; walk_at "u_ec")))
  | ((with_reducible refine' U.ec_or ?ha ?hc); (case ha => walk_at "u_ec"); (case hc => (intro _; walk_at "u_ec")))
  | ((with_reducible refine' U.ec_not ?ha); (case ha => walk_at "u_ec")))
local macro_rules | `(tactic| walk_at "u_n") => `(tactic| ((try (with_reducible refine' U.s_next ?_)); (try dsimp only)))
local macro_rules | `(tactic| walk_at "u_ev") => `(tactic| first
  | ((with_reducible refine' U.ev_chain ?ha ?hb ?hc ?hd ?he); (case ha => walk_at "u_ev"); (case hb => walk_at "u_ev"); (case hc => walk_at "u_rv"); (case hd => (intro _; walk_at "u_ev")); (case he => (intro _; walk_at "u_rv"))))
local macro_rules | `(tactic| walk_at "u_call") => `(tactic| first
  | exact ⟨_, rfl, rfl⟩ | exact ⟨_, _, rfl, rfl⟩ | exact ⟨_, _, _, rfl, rfl⟩ | exact ⟨_, _, _, _, rfl, rfl⟩)
local macro_rules | `(tactic| walk_at "u_lci") => `(tactic| (
  (refine' U.q_lc1 (enc := U.Dt.int) ?h ?it ?hz ?hw ?he); (case h => walk_at "u_ev"); (case it => first | exact U.Items.lst _ | exact U.Items.tup _); (case hz => walk_at "u_side"); (case hw => (intro _; rfl)); (case he => (intro q v B1 hm hB rv; cases rv; walk_at "u_ev"))))
local macro_rules | `(tactic| walk_at "u_ev") => `(tactic| ((with_reducible refine' U.ev_exc ?ha); (case ha => walk_at "u_ev")))
local macro_rules | `(tactic| walk_at "u_rv") => `(tactic| exact U.rv_ixT rfl)
local macro_rules | `(tactic| walk_at "u_rv") => `(tactic| exact U.rv_rep ⟨by decide, by decide⟩ (by simp))

namespace Law
open PySem L2 U
open Evl (Ex rLenS rListS st_of sq_of sz_lt sz_of fresh_back)
def top (i : Nat) : Stmt := PySem.Challenge.pw_unknowncorners_k08_settings_and_facts_re.main.body.getD i (.Pass ⟨0, 0, 0, 0⟩)
abbrev s_is_within : Stmt := top 6
abbrev s_is_tuple_of : Stmt := top 7
abbrev s_is_axis : Stmt := top 8
abbrev s_is_frame : Stmt := top 9
abbrev s_need_frame : Stmt := top 10
abbrev s_on_axis : Stmt := top 11
abbrev s_is_row : Stmt := top 15
abbrev s_is_setting : Stmt := top 16
abbrev s_need_setting : Stmt := top 17
abbrev s_is_fact : Stmt := top 18
abbrev s_is_facts : Stmt := top 19
abbrev s_plain_row : Stmt := top 20
abbrev s_plain : Stmt := top 21
abbrev s__law_cell : Stmt := top 23
abbrev s__law_draw : Stmt := top 24
abbrev s__law_values : Stmt := top 25
abbrev s__law_frame : Stmt := top 26
abbrev s__law_setting : Stmt := top 27
abbrev s__law_fact : Stmt := top 28
abbrev s__law_rules : Stmt := top 29
abbrev s__law_bad_frame : Stmt := top 30
abbrev s__law_bad_setting : Stmt := top 31
abbrev s__law_bad_fact : Stmt := top 32
abbrev s__law_bad_rules : Stmt := top 33
abbrev s__law_refused : Stmt := top 35
abbrev s__law_right : Stmt := top 36
abbrev s_law : Stmt := top 37
theorem sc_is_within : FnScope ["value", "least", "most"] ["value", "least", "most"] (defScope s_is_within) := ⟨rfl, rfl, rfl, by decide +kernel, rfl, by decide +kernel, by decide +kernel⟩
theorem sc_is_tuple_of : FnScope ["value", "many"] ["value", "many"] (defScope s_is_tuple_of) := ⟨rfl, rfl, rfl, by decide +kernel, rfl, by decide +kernel, by decide +kernel⟩
theorem sc_is_axis : FnScope ["value"] ["value"] (defScope s_is_axis) := ⟨rfl, rfl, rfl, by decide +kernel, rfl, by decide +kernel, by decide +kernel⟩
theorem sc_is_frame : FnScope ["value", "item"] ["value"] (defScope s_is_frame) := ⟨rfl, rfl, rfl, by decide +kernel, rfl, by decide +kernel, by decide +kernel⟩
theorem sc_need_frame : FnScope ["frame"] ["frame"] (defScope s_need_frame) := ⟨rfl, rfl, rfl, by decide +kernel, rfl, by decide +kernel, by decide +kernel⟩
theorem sc_on_axis : FnScope ["pair", "axis"] ["pair", "axis"] (defScope s_on_axis) := ⟨rfl, rfl, rfl, by decide +kernel, rfl, by decide +kernel, by decide +kernel⟩
theorem sc_is_row : FnScope ["value", "many", "item"] ["value", "many"] (defScope s_is_row) := ⟨rfl, rfl, rfl, by decide +kernel, rfl, by decide +kernel, by decide +kernel⟩
theorem sc_is_setting : FnScope ["frame", "value"] ["frame", "value"] (defScope s_is_setting) := ⟨rfl, rfl, rfl, by decide +kernel, rfl, by decide +kernel, by decide +kernel⟩
theorem sc_need_setting : FnScope ["frame", "setting"] ["frame", "setting"] (defScope s_need_setting) := ⟨rfl, rfl, rfl, by decide +kernel, rfl, by decide +kernel, by decide +kernel⟩
theorem sc_is_fact : FnScope ["frame", "value", "axis", "first", "second", "least", "last"] ["frame", "value"] (defScope s_is_fact) := ⟨rfl, rfl, rfl, by decide +kernel, rfl, by decide +kernel, by decide +kernel⟩
theorem sc_is_facts : FnScope ["frame", "value", "item"] ["frame", "value"] (defScope s_is_facts) := ⟨rfl, rfl, rfl, by decide +kernel, rfl, by decide +kernel, by decide +kernel⟩
theorem sc_plain_row : FnScope ["values", "least", "item", "value"] ["values"] (defScope s_plain_row) := ⟨rfl, rfl, rfl, by decide +kernel, rfl, by decide +kernel, by decide +kernel⟩
theorem sc_plain : FnScope ["frame", "setting", "across", "down"] ["frame", "setting"] (defScope s_plain) := ⟨rfl, rfl, rfl, by decide +kernel, rfl, by decide +kernel, by decide +kernel⟩
theorem sc__law_cell : FnScope ["script", "k"] ["script", "k"] (defScope s__law_cell) := ⟨rfl, rfl, rfl, by decide +kernel, rfl, by decide +kernel, by decide +kernel⟩
theorem sc__law_draw : FnScope ["cell", "k", "limit", "seed", "first", "second", "third"] ["cell", "k", "limit"] (defScope s__law_draw) := ⟨rfl, rfl, rfl, by decide +kernel, rfl, by decide +kernel, by decide +kernel⟩
theorem sc__law_values : FnScope ["cell", "k", "many", "found", "j", "mode", "amount"] ["cell", "k", "many"] (defScope s__law_values) := ⟨rfl, rfl, rfl, by decide +kernel, rfl, by decide +kernel, by decide +kernel⟩
theorem sc__law_frame : FnScope ["cell"] ["cell"] (defScope s__law_frame) := ⟨rfl, rfl, rfl, by decide +kernel, rfl, by decide +kernel, by decide +kernel⟩
theorem sc__law_setting : FnScope ["cell", "plane"] ["cell", "plane"] (defScope s__law_setting) := ⟨rfl, rfl, rfl, by decide +kernel, rfl, by decide +kernel, by decide +kernel⟩
theorem sc__law_fact : FnScope ["cell", "k", "plane", "at", "first", "second"] ["cell", "k", "plane"] (defScope s__law_fact) := ⟨rfl, rfl, rfl, by decide +kernel, rfl, by decide +kernel, by decide +kernel⟩
theorem sc__law_rules : FnScope ["cell", "plane", "j"] ["cell", "plane"] (defScope s__law_rules) := ⟨rfl, rfl, rfl, by decide +kernel, rfl, by decide +kernel, by decide +kernel⟩
theorem sc__law_bad_frame : FnScope ["cell", "menu"] ["cell"] (defScope s__law_bad_frame) := ⟨rfl, rfl, rfl, by decide +kernel, rfl, by decide +kernel, by decide +kernel⟩
theorem sc__law_bad_setting : FnScope ["cell", "plane", "point", "xs", "ys", "menu", "at", "odd", "k"] ["cell", "plane", "point"] (defScope s__law_bad_setting) := ⟨rfl, rfl, rfl, by decide +kernel, rfl, by decide +kernel, by decide +kernel⟩
theorem sc__law_bad_fact : FnScope ["cell", "plane", "menu"] ["cell", "plane"] (defScope s__law_bad_fact) := ⟨rfl, rfl, rfl, by decide +kernel, rfl, by decide +kernel, by decide +kernel⟩
theorem sc__law_bad_rules : FnScope ["cell", "plane", "rules", "at", "menu", "spoiled", "k"] ["cell", "plane", "rules"] (defScope s__law_bad_rules) := ⟨rfl, rfl, rfl, by decide +kernel, rfl, by decide +kernel, by decide +kernel⟩
theorem sc__law_refused : FnScope ["plane", "point", "rules", "told", "way"] ["plane", "point", "rules"] (defScope s__law_refused) := ⟨rfl, rfl, rfl, by decide +kernel, rfl, by decide +kernel, by decide +kernel⟩
theorem sc__law_right : FnScope ["cell", "plane", "point", "rules", "kept", "told", "broken"] ["cell"] (defScope s__law_right) := ⟨rfl, rfl, rfl, by decide +kernel, rfl, by decide +kernel, by decide +kernel⟩
theorem sc_law : FnScope ["script", "k"] ["script"] (defScope s_law) := ⟨rfl, rfl, rfl, by decide +kernel, rfl, by decide +kernel, by decide +kernel⟩
def kb_is_facts_0_g : List Value → List Value → List Value | [], [w0, w1] => [w1, w0] | _, _ => []
def kb_is_facts_0_v : List V → List V → List V | [], [w0, w1] => [w1, w0] | _, _ => []
def kb_is_facts_0_d : List Dt → List Dt → List Dt | [], [w0, w1] => [w1, w0] | _, _ => []
def kb_is_setting_0_g : List Value → List Value → List Value | [], [w0, w1] => [w1, w0] | _, _ => []
def kb_is_setting_0_v : List V → List V → List V | [], [w0, w1] => [w1, w0] | _, _ => []
def kb_is_setting_0_d : List Dt → List Dt → List Dt | [], [w0, w1] => [w1, w0] | _, _ => []
theorem kb_is_facts_0_rel {vs : List V} {us : List Value} {zs : List V} {ws : List Value} (r1 : Vals vs us) (r2 : Vals zs ws) : Vals (kb_is_facts_0_v vs zs) (kb_is_facts_0_g us ws) := by
  cases r1 with
  | cons _ _ => exact .nil
  | nil =>
    cases r2 with
    | nil => exact .nil
    | cons b0 r2 =>
      cases r2 with
      | nil => exact .nil
      | cons b1 r2 =>
        cases r2 with
        | cons _ _ => exact .nil
        | nil =>
          exact (.cons b1 (.cons b0 .nil))
theorem kb_is_facts_0_reld {B : Hp} {vs : List V} {us : List Dt} {zs : List V} {ws : List Dt} (r1 : RA B vs us) (r2 : RA B zs ws) : RA B (kb_is_facts_0_v vs zs) (kb_is_facts_0_d us ws) := by
  cases r1 with
  | cons _ _ => exact .nil
  | nil =>
    cases r2 with
    | nil => exact .nil
    | cons b0 r2 =>
      cases r2 with
      | nil => exact .nil
      | cons b1 r2 =>
        cases r2 with
        | cons _ _ => exact .nil
        | nil =>
          exact (.cons b1 (.cons b0 .nil))
theorem kb_is_setting_0_rel {vs : List V} {us : List Value} {zs : List V} {ws : List Value} (r1 : Vals vs us) (r2 : Vals zs ws) : Vals (kb_is_setting_0_v vs zs) (kb_is_setting_0_g us ws) := by
  cases r1 with
  | cons _ _ => exact .nil
  | nil =>
    cases r2 with
    | nil => exact .nil
    | cons b0 r2 =>
      cases r2 with
      | nil => exact .nil
      | cons b1 r2 =>
        cases r2 with
        | cons _ _ => exact .nil
        | nil =>
          exact (.cons b1 (.cons b0 .nil))
theorem kb_is_setting_0_reld {B : Hp} {vs : List V} {us : List Dt} {zs : List V} {ws : List Dt} (r1 : RA B vs us) (r2 : RA B zs ws) : RA B (kb_is_setting_0_v vs zs) (kb_is_setting_0_d us ws) := by
  cases r1 with
  | cons _ _ => exact .nil
  | nil =>
    cases r2 with
    | nil => exact .nil
    | cons b0 r2 =>
      cases r2 with
      | nil => exact .nil
      | cons b1 r2 =>
        cases r2 with
        | cons _ _ => exact .nil
        | nil =>
          exact (.cons b1 (.cons b0 .nil))
structure Txt (K : PySem.W.Frag) (mg : Str → Option Value) (fa : Nat → Addr) (fd : Nat → FuncData) : Prop where
  d_is_within : At K mg "is_within" s_is_within (fa 6) (fd 6)
  d_is_tuple_of : At K mg "is_tuple_of" s_is_tuple_of (fa 7) (fd 7)
  d_is_axis : At K mg "is_axis" s_is_axis (fa 8) (fd 8)
  d_is_frame : At K mg "is_frame" s_is_frame (fa 9) (fd 9)
  d_need_frame : At K mg "need_frame" s_need_frame (fa 10) (fd 10)
  d_on_axis : At K mg "on_axis" s_on_axis (fa 11) (fd 11)
  d_is_row : At K mg "is_row" s_is_row (fa 15) (fd 15)
  d_is_setting : At K mg "is_setting" s_is_setting (fa 16) (fd 16)
  d_need_setting : At K mg "need_setting" s_need_setting (fa 17) (fd 17)
  d_is_fact : At K mg "is_fact" s_is_fact (fa 18) (fd 18)
  d_is_facts : At K mg "is_facts" s_is_facts (fa 19) (fd 19)
  d_plain_row : At K mg "plain_row" s_plain_row (fa 20) (fd 20)
  d_plain : At K mg "plain" s_plain (fa 21) (fd 21)
  d__law_cell : At K mg "_law_cell" s__law_cell (fa 23) (fd 23)
  d__law_draw : At K mg "_law_draw" s__law_draw (fa 24) (fd 24)
  d__law_values : At K mg "_law_values" s__law_values (fa 25) (fd 25)
  d__law_frame : At K mg "_law_frame" s__law_frame (fa 26) (fd 26)
  d__law_setting : At K mg "_law_setting" s__law_setting (fa 27) (fd 27)
  d__law_fact : At K mg "_law_fact" s__law_fact (fa 28) (fd 28)
  d__law_rules : At K mg "_law_rules" s__law_rules (fa 29) (fd 29)
  d__law_bad_frame : At K mg "_law_bad_frame" s__law_bad_frame (fa 30) (fd 30)
  d__law_bad_setting : At K mg "_law_bad_setting" s__law_bad_setting (fa 31) (fd 31)
  d__law_bad_fact : At K mg "_law_bad_fact" s__law_bad_fact (fa 32) (fd 32)
  d__law_bad_rules : At K mg "_law_bad_rules" s__law_bad_rules (fa 33) (fd 33)
  d__law_refused : At K mg "_law_refused" s__law_refused (fa 35) (fd 35)
  d__law_right : At K mg "_law_right" s__law_right (fa 36) (fd 36)
  d_law : At K mg "law" s_law (fa 37) (fd 37)
  k_MOST_UNKNOWNS : ∃ t, mg "MOST_UNKNOWNS" = some (.int 3 t)
  k_MOST_LEAST : ∃ t, mg "MOST_LEAST" = some (.int 6 t)
  k_MOST_FACTS : ∃ t, mg "MOST_FACTS" = some (.int 6 t)
  n_ValueError : mg "ValueError" = none
  n_abs : mg "abs" = none
  n_all : mg "all" = none
  n_int : mg "int" = none
  n_len : mg "len" = none
  n_list : mg "list" = none
  n_max : mg "max" = none
  n_min : mg "min" = none
  n_range : mg "range" = none
  n_repr : mg "repr" = none
  n_str : mg "str" = none
  n_tuple : mg "tuple" = none
  n_type : mg "type" = none
  e_InvalidFrame : ExcT K mg "InvalidFrame" (cAt mg "InvalidFrame")
  e_PaintError : ExcT K mg "PaintError" (cAt mg "PaintError")
  p_InvalidFrame : ExcP K mg "InvalidFrame" (cAt mg "InvalidFrame")
  s_InvalidFrame_InvalidFrame : PySem.W.subIn K (.ref (cAt mg "InvalidFrame")) (.ref (cAt mg "InvalidFrame")) = some true
section
variable {K : PySem.W.Frag} {mg : Str → Option Value} {fa : Nat → Addr} {fd : Nat → FuncData}
theorem bn_is_within (T : Txt K mg fa fd) : Binds K (fd 6) ["value", "least", "most"] [] := T.d_is_within.F.binds fun _ _ _ _ _ _ us hl => match us, hl with | [_, _, _], _ => rfl
theorem bn_is_tuple_of (T : Txt K mg fa fd) : Binds K (fd 7) ["value", "many"] [] := T.d_is_tuple_of.F.binds fun _ _ _ _ _ _ us hl => match us, hl with | [_, _], _ => rfl
theorem bn_is_axis (T : Txt K mg fa fd) : Binds K (fd 8) ["value"] [] := T.d_is_axis.F.binds fun _ _ _ _ _ _ us hl => match us, hl with | [_], _ => rfl
theorem bn_is_frame (T : Txt K mg fa fd) : Binds K (fd 9) ["value"] [] := T.d_is_frame.F.binds fun _ _ _ _ _ _ us hl => match us, hl with | [_], _ => rfl
theorem bn_need_frame (T : Txt K mg fa fd) : Binds K (fd 10) ["frame"] [] := T.d_need_frame.F.binds fun _ _ _ _ _ _ us hl => match us, hl with | [_], _ => rfl
theorem bn_on_axis (T : Txt K mg fa fd) : Binds K (fd 11) ["pair", "axis"] [] := T.d_on_axis.F.binds fun _ _ _ _ _ _ us hl => match us, hl with | [_, _], _ => rfl
theorem bn_is_row (T : Txt K mg fa fd) : Binds K (fd 15) ["value", "many"] [] := T.d_is_row.F.binds fun _ _ _ _ _ _ us hl => match us, hl with | [_, _], _ => rfl
theorem bn_is_setting (T : Txt K mg fa fd) : Binds K (fd 16) ["frame", "value"] [] := T.d_is_setting.F.binds fun _ _ _ _ _ _ us hl => match us, hl with | [_, _], _ => rfl
theorem bn_need_setting (T : Txt K mg fa fd) : Binds K (fd 17) ["frame", "setting"] [] := T.d_need_setting.F.binds fun _ _ _ _ _ _ us hl => match us, hl with | [_, _], _ => rfl
theorem bn_is_fact (T : Txt K mg fa fd) : Binds K (fd 18) ["frame", "value"] [] := T.d_is_fact.F.binds fun _ _ _ _ _ _ us hl => match us, hl with | [_, _], _ => rfl
theorem bn_is_facts (T : Txt K mg fa fd) : Binds K (fd 19) ["frame", "value"] [] := T.d_is_facts.F.binds fun _ _ _ _ _ _ us hl => match us, hl with | [_, _], _ => rfl
theorem bn_plain_row (T : Txt K mg fa fd) : Binds K (fd 20) ["values"] [] := T.d_plain_row.F.binds fun _ _ _ _ _ _ us hl => match us, hl with | [_], _ => rfl
theorem bn_plain (T : Txt K mg fa fd) : Binds K (fd 21) ["frame", "setting"] [] := T.d_plain.F.binds fun _ _ _ _ _ _ us hl => match us, hl with | [_, _], _ => rfl
theorem bn__law_cell (T : Txt K mg fa fd) : Binds K (fd 23) ["script", "k"] [] := T.d__law_cell.F.binds fun _ _ _ _ _ _ us hl => match us, hl with | [_, _], _ => rfl
theorem bn__law_draw (T : Txt K mg fa fd) : Binds K (fd 24) ["cell", "k", "limit"] [] := T.d__law_draw.F.binds fun _ _ _ _ _ _ us hl => match us, hl with | [_, _, _], _ => rfl
theorem bn__law_values (T : Txt K mg fa fd) : Binds K (fd 25) ["cell", "k", "many"] [] := T.d__law_values.F.binds fun _ _ _ _ _ _ us hl => match us, hl with | [_, _, _], _ => rfl
theorem bn__law_frame (T : Txt K mg fa fd) : Binds K (fd 26) ["cell"] [] := T.d__law_frame.F.binds fun _ _ _ _ _ _ us hl => match us, hl with | [_], _ => rfl
theorem bn__law_setting (T : Txt K mg fa fd) : Binds K (fd 27) ["cell", "plane"] [] := T.d__law_setting.F.binds fun _ _ _ _ _ _ us hl => match us, hl with | [_, _], _ => rfl
theorem bn__law_fact (T : Txt K mg fa fd) : Binds K (fd 28) ["cell", "k", "plane"] [] := T.d__law_fact.F.binds fun _ _ _ _ _ _ us hl => match us, hl with | [_, _, _], _ => rfl
theorem bn__law_rules (T : Txt K mg fa fd) : Binds K (fd 29) ["cell", "plane"] [] := T.d__law_rules.F.binds fun _ _ _ _ _ _ us hl => match us, hl with | [_, _], _ => rfl
theorem bn__law_bad_frame (T : Txt K mg fa fd) : Binds K (fd 30) ["cell"] [] := T.d__law_bad_frame.F.binds fun _ _ _ _ _ _ us hl => match us, hl with | [_], _ => rfl
theorem bn__law_bad_setting (T : Txt K mg fa fd) : Binds K (fd 31) ["cell", "plane", "point"] [] := T.d__law_bad_setting.F.binds fun _ _ _ _ _ _ us hl => match us, hl with | [_, _, _], _ => rfl
theorem bn__law_bad_fact (T : Txt K mg fa fd) : Binds K (fd 32) ["cell", "plane"] [] := T.d__law_bad_fact.F.binds fun _ _ _ _ _ _ us hl => match us, hl with | [_, _], _ => rfl
theorem bn__law_bad_rules (T : Txt K mg fa fd) : Binds K (fd 33) ["cell", "plane", "rules"] [] := T.d__law_bad_rules.F.binds fun _ _ _ _ _ _ us hl => match us, hl with | [_, _, _], _ => rfl
theorem bn__law_refused (T : Txt K mg fa fd) : Binds K (fd 35) ["plane", "point", "rules"] [] := T.d__law_refused.F.binds fun _ _ _ _ _ _ us hl => match us, hl with | [_, _, _], _ => rfl
theorem bn__law_right (T : Txt K mg fa fd) : Binds K (fd 36) ["cell"] [] := T.d__law_right.F.binds fun _ _ _ _ _ _ us hl => match us, hl with | [_], _ => rfl
theorem bn_law (T : Txt K mg fa fd) : Binds K (fd 37) ["script"] [] := T.d_law.F.binds fun _ _ _ _ _ _ us hl => match us, hl with | [_], _ => rfl
theorem kb_is_facts_0 (T : Txt K mg fa fd) : KBinds K (fd 19) ["frame", "value"] ["value", "frame"] kb_is_facts_0_g kb_is_facts_0_v := by
  refine kb_of T.d_is_facts.F (fun _ _ _ _ _ _ us ws hl => ?_) (fun {vs us zs ws} r1 r2 => ?_)
  · match us, ws, hl with | [], [w0, w1], _ => rfl
  · exact kb_is_facts_0_rel r1 r2
theorem kb_is_setting_0 (T : Txt K mg fa fd) : KBinds K (fd 16) ["frame", "value"] ["value", "frame"] kb_is_setting_0_g kb_is_setting_0_v := by
  refine kb_of T.d_is_setting.F (fun _ _ _ _ _ _ us ws hl => ?_) (fun {vs us zs ws} r1 r2 => ?_)
  · match us, ws, hl with | [], [w0, w1], _ => rfl
  · exact kb_is_setting_0_rel r1 r2
end
section
variable {P : Program} {w : World} {K : PySem.W.Frag} {mg : Str → Option Value} {base : Heap} {fa : Nat → Addr} {fd : Nat → FuncData}
def g_is_within (ds : List Dt) (d : Dt) : Prop := ∃ i a b : Int, ds = [.int i, .int a, .int b] ∧ d = .bl (decide (a ≤ i) && decide (i ≤ b))
theorem ok_is_within (T : Txt K mg fa fd) : FnG P w K mg base CX0 1 (fa 6) (fd 6) ["value", "least", "most"] (spD g_is_within) := by
  refine fn_D T.d_is_within.F sc_is_within (fun ds d h => by obtain ⟨_, _, _, rfl, _⟩ := h; rfl) (fun cdv Γ below s B H vs ds d Q E hg hr e ra hd ret => ?_)
  obtain ⟨i, a, b, rfl, rfl⟩ := hd
  rcases ra with _ | ⟨r1, _ | ⟨r2, _ | ⟨r3, _ | _⟩⟩⟩
  cases r1; cases r2; cases r3
  refine ⟨_, (pss_one (ps_ret (pe_and (pe_cmpR op_isT (pe_typeX rfl T.n_type (pv 0)) (pe_bltn (v := .ty "int") rfl T.n_int (by decide +kernel) rfl) (nomark _)) (pe_one (pe_chain op_le op_le (pv 1) (pv 0) (pv 2)))))), ?_⟩
  exact s_retE e (by walk_at "u_ev") (by simp [Dt.kind]) (fun v B1 H2 n1 rv => ret v B1 H2 n1 rv)

def withinD (d : Dt) (lo hi : Int) : Bool := match d with
  | .int i => decide (lo ≤ i) && decide (i ≤ hi)
  | _ => false
def gG_is_within (ds : List Dt) (d : Dt) : Prop := ∃ (x : Dt) (lo hi : Int), ds = [x, .int lo, .int hi] ∧ d = .bl (withinD x lo hi)
theorem okG_is_within (T : Txt K mg fa fd) : FnG P w K mg base CX0 1 (fa 6) (fd 6) ["value", "least", "most"] (spD gG_is_within) := by
  refine fn_D T.d_is_within.F sc_is_within (fun ds d h => by obtain ⟨_, _, _, rfl, _⟩ := h; rfl) (fun cdv Γ below s B H vs ds d Q E hg hr e ra hd ret => ?_)
  obtain ⟨x, lo, hi, rfl, rfl⟩ := hd
  rcases ra with _ | ⟨r1, _ | ⟨r2, _ | ⟨r3, _ | _⟩⟩⟩
  cases r2; cases r3
  refine ⟨_, (pss_one (ps_ret (pe_and (pe_cmpR op_isT (pe_typeX rfl T.n_type (pv 0)) (pe_bltn (v := .ty "int") rfl T.n_int (by decide +kernel) rfl) (nomark _)) (pe_one (pe_chain op_le op_le (pv 1) (pv 0) (pv 2)))))), ?_⟩
  refine s_retE e (x := .bl (withinD x lo hi)) ?_ rfl ret
  by_cases hk : x.kind = "int"
  · cases x <;> first | (rename_i i; exact EvR.is (ev_and (b := decide (lo ≤ i) && decide (i ≤ hi)) (ev_isTy (ev_v rfl r1)) fun _ => ev_chain (ev_v rfl (.int _)) (ev_v rfl r1) rv_le (fun _ => ev_v rfl (.int _)) (fun _ => rv_le)) rfl) | exact absurd hk (by simp [Dt.kind])
  · have e1 : withinD x lo hi = false := by cases x <;> first | rfl | exact absurd rfl hk
    rw [e1]
    exact ev_andF (ev_isTy (ev_v rfl r1)) (decide_eq_false hk)

def g_is_tuple_of (ds : List Dt) (d : Dt) : Prop := ∃ (xs : List Dt) (n : Int), ds = [.tup xs, .int n] ∧ d = .bl (decide ((xs.length : Int) = n))
theorem ok_is_tuple_of (T : Txt K mg fa fd) : FnG P w K mg base CX0 1 (fa 7) (fd 7) ["value", "many"] (spD g_is_tuple_of) := by
  refine fn_D T.d_is_tuple_of.F sc_is_tuple_of (fun ds d h => by obtain ⟨_, _, rfl, _⟩ := h; rfl) (fun cdv Γ below s B H vs ds d Q E hg hr e ra hd ret => ?_)
  obtain ⟨xs, n, rfl, rfl⟩ := hd
  rcases ra with _ | ⟨r1, _ | ⟨r2, _ | _⟩⟩
  cases r2
  have hu := hr.units
  refine ⟨_, (pss_one (ps_ret (pe_and (pe_cmpR op_isT (pe_typeX rfl T.n_type (pv 0)) (pe_bltn (v := .ty "tuple") rfl T.n_tuple (by decide +kernel) rfl) (nomark _)) (pe_one (pe_cmpR (k_eq (K := K) rfl hu) (pe_callB (k_len (K := K) rfl) rfl T.n_len (by decide +kernel) (pa_cons (pv 0) pa_nil)) (pv 1) (nomark _)))))), ?_⟩
  exact s_retE e (by walk_at "u_ev") (by simp [Dt.kind]) (fun v B1 H2 n1 rv => ret v B1 H2 n1 rv)

def tupOfD (d : Dt) (n : Int) : Bool := match d with
  | .tup xs => decide (((xs.length : Nat) : Int) = n)
  | _ => false
def gG_is_tuple_of (ds : List Dt) (d : Dt) : Prop := ∃ (x : Dt) (n : Int), ds = [x, .int n] ∧ d = .bl (tupOfD x n)
theorem okG_is_tuple_of (T : Txt K mg fa fd) : FnG P w K mg base CX0 1 (fa 7) (fd 7) ["value", "many"] (spD gG_is_tuple_of) := by
  refine fn_D T.d_is_tuple_of.F sc_is_tuple_of (fun ds d h => by obtain ⟨_, _, rfl, _⟩ := h; rfl) (fun cdv Γ below s B H vs ds d Q E hg hr e ra hd ret => ?_)
  obtain ⟨x, n, rfl, rfl⟩ := hd
  rcases ra with _ | ⟨r1, _ | ⟨r2, _ | _⟩⟩
  cases r2
  have hu := hr.units
  refine ⟨_, (pss_one (ps_ret (pe_and (pe_cmpR op_isT (pe_typeX rfl T.n_type (pv 0)) (pe_bltn (v := .ty "tuple") rfl T.n_tuple (by decide +kernel) rfl) (nomark _)) (pe_one (pe_cmpR (k_eq (K := K) rfl hu) (pe_callB (k_len (K := K) rfl) rfl T.n_len (by decide +kernel) (pa_cons (pv 0) pa_nil)) (pv 1) (nomark _)))))), ?_⟩
  refine s_retE e (x := .bl (tupOfD x n)) ?_ rfl ret
  by_cases hk : x.kind = "tuple"
  · cases x <;> first | (rename_i xs; exact EvR.is (ev_and (b := decide (((xs.length : Nat) : Int) = n)) (ev_isTy (ev_v rfl r1)) fun _ => ev_op (ev_cb (ea_cons (ev_v rfl r1) ea_nil) rl_lenT) (ev_v rfl (.int _)) (rv_inl rv_eqI)) rfl) | exact absurd hk (by simp [Dt.kind])
  · have e1 : tupOfD x n = false := by cases x <;> first | rfl | exact absurd rfl hk
    rw [e1]
    exact ev_andF (ev_isTy (ev_v rfl r1)) (decide_eq_false hk)

def g_is_axis (ds : List Dt) (d : Dt) : Prop := ∃ b : Bool, ds = [.str (axS b)] ∧ d = .bl true
theorem ok_is_axis (T : Txt K mg fa fd) : FnG P w K mg base CX0 1 (fa 8) (fd 8) ["value"] (spD g_is_axis) := by
  refine fn_D T.d_is_axis.F sc_is_axis (fun ds d h => by obtain ⟨_, rfl, _⟩ := h; rfl) (fun cdv Γ below s B H vs ds d Q E hg hr e ra hd ret => ?_)
  obtain ⟨b, rfl, rfl⟩ := hd
  rcases ra with _ | ⟨r1, _ | _⟩
  refine ⟨_, (pss_one (ps_ret (pe_and (pe_cmpR op_isT (pe_typeX rfl T.n_type (pv 0)) (pe_bltn (v := .ty "str") rfl T.n_str (by decide +kernel) rfl) (nomark _)) (pe_one (pe_cmpR (k_in (K := K) rfl) (pv 0) (pe_tup (pa_cons pe_str (pa_cons pe_str pa_nil))) (by rfl)))))), ?_⟩
  refine s_retE e (ev_and (by walk_at "u_ev") fun _ => ev_op (by walk_at "u_ev") (ev_tup (by walk_at "u_ea") (by simp)) (rv_in (neg := false) rfl (Items.tup _) rfl)) ?_ ret
  cases b <;> simp [Dt.kind] <;> decide +kernel

def axisD (d : Dt) : Bool := match d with
  | .str s => inV (.str s) [.str "x", .str "y"]
  | _ => false
def gG_is_axis (ds : List Dt) (d : Dt) : Prop := ∃ x : Dt, ds = [x] ∧ d = .bl (axisD x)
theorem okG_is_axis (T : Txt K mg fa fd) : FnG P w K mg base CX0 1 (fa 8) (fd 8) ["value"] (spD gG_is_axis) := by
  refine fn_D T.d_is_axis.F sc_is_axis (fun ds d h => by obtain ⟨_, rfl, _⟩ := h; rfl) (fun cdv Γ below s B H vs ds d Q E hg hr e ra hd ret => ?_)
  obtain ⟨x, rfl, rfl⟩ := hd
  rcases ra with _ | ⟨r1, _ | _⟩
  refine ⟨_, (pss_one (ps_ret (pe_and (pe_cmpR op_isT (pe_typeX rfl T.n_type (pv 0)) (pe_bltn (v := .ty "str") rfl T.n_str (by decide +kernel) rfl) (nomark _)) (pe_one (pe_cmpR (k_in (K := K) rfl) (pv 0) (pe_tup (pa_cons pe_str (pa_cons pe_str pa_nil))) (by rfl)))))), ?_⟩
  refine s_retE e (x := .bl (axisD x)) ?_ rfl ret
  by_cases hk : x.kind = "str"
  · cases x <;> first | (rename_i t; exact EvR.is (ev_and (b := inV (.str t) [.str "x", .str "y"]) (ev_isTy (ev_v rfl r1)) fun _ => ev_op (ev_v rfl r1) (ev_tup (ea_cons ev_s (ea_cons ev_s ea_nil)) (by simp)) (rv_in (neg := false) rfl (Items.tup _) rfl)) rfl) | exact absurd hk (by simp [Dt.kind])
  · have e1 : axisD x = false := by cases x <;> first | rfl | exact absurd rfl hk
    rw [e1]
    exact ev_andF (ev_isTy (ev_v rfl r1)) (decide_eq_false hk)

def FrOk (a b : Int) : Prop := 1 ≤ a ∧ a ≤ 3 ∧ 1 ≤ b ∧ b ≤ 3
def g_is_frame (ds : List Dt) (d : Dt) : Prop := ∃ a b : Int, ds = [eFr a b] ∧ FrOk a b ∧ d = .bl true
theorem ok_is_frame (T : Txt K mg fa fd) : FnG P w K mg base CX0 2 (fa 9) (fd 9) ["value"] (spD g_is_frame) := by
  refine fn_D T.d_is_frame.F sc_is_frame (fun ds d h => by obtain ⟨_, _, rfl, _⟩ := h; rfl) (fun cdv Γ below s B H vs ds d Q E hg hr e ra hd ret => ?_)
  obtain ⟨a, b, rfl, ⟨h1, h2, h3, h4⟩, rfl⟩ := hd
  rcases ra with _ | ⟨r1, _ | _⟩
  obtain ⟨tk, hc_MOST_UNKNOWNS⟩ := T.k_MOST_UNKNOWNS
  refine ⟨_, (pss_one (ps_ret (pe_and (pe_go (ok_is_tuple_of T) hg (hr.mono (by decide)) rfl T.d_is_tuple_of.at_ T.d_is_tuple_of.F.kp (bn_is_tuple_of T) pass0 (pa_cons (pv 0) (pa_cons pe_int pa_nil))) (pe_one (pe_callB (k_all (K := K) rfl rfl) rfl T.n_all (by decide +kernel) (pa_cons (pe_lc (own := [("item", 1)]) (g := (gName 1)) (tt := tYes) rfl sc_is_frame.nd (k_seq (K := K) rfl (pv 0)) (blkOk_by (N := ["value", "item"]) (sc := defScope s_is_frame) (by decide +kernel)) (fun _ _ _ _ _ => (pg_name (i := 1) sc_is_frame.nd rfl (by first | exact Or.inl rfl | exact Or.inr rfl))) (fun _ _ _ _ _ => pts_nil) (fun _ _ _ _ _ => (pe_go (ok_is_within T) hg (hr.mono (by decide)) rfl T.d_is_within.at_ T.d_is_within.F.kp (bn_is_within T) pass0 (pa_cons (pv 1) (pa_cons pe_int (pa_cons (pe_glob (v := .int 3) rfl hc_MOST_UNKNOWNS ⟨_, rfl⟩) pa_nil)))))) pa_nil)))))), ?_⟩
  refine s_retE e (x := .bl (decide (((([.int a, .int b] : List Dt).length : Nat) : Int) = 2) && [a, b].all fun q => decide (1 ≤ q) && decide (q ≤ 3))) (ev_and (by walk_at "u_ev") fun _ => ev_cb (ea_cons ?_ ea_nil) rl_all) ?_ (fun v B1 H2 n1 rv => ret v B1 H2 n1 rv)
  · refine q_lc1 (l := [a, b]) (enc := Dt.int) (f := fun q => Dt.bl (decide (1 ≤ q) && decide (q ≤ 3))) (by walk_at "u_ev") (Items.tup _) (by simp) (fun _ => rfl) (fun q v B1 hm hB rv => ?_)
    cases rv
    walk_at "u_ev"
  · simp [h1, h2, h3, h4]

def frameD (d : Dt) : Bool := match d with
  | .tup [a, b] => withinD a 1 3 && withinD b 1 3
  | _ => false
theorem tup_of {x : Dt} {n : Int} (h : tupOfD x n = true) : ∃ xs, x = .tup xs ∧ ((xs.length : Nat) : Int) = n := by
  cases x with
  | tup xs => exact ⟨xs, rfl, of_decide_eq_true h⟩
  | _ => cases h
theorem two_of {xs : List Dt} (h : ((xs.length : Nat) : Int) = 2) : ∃ a b, xs = [a, b] := by
  match xs, h with
  | [a, b], _ => exact ⟨a, b, rfl⟩
  | [], h => cases h
  | [_], h => cases h
  | _ :: _ :: _ :: _, h => simp at h; omega
def inTup (x : Dt) (p : Dt → Bool) : Bool := match x with
  | .tup xs => xs.all p
  | _ => false
theorem frameD_of (x : Dt) : frameD x = (tupOfD x 2 && inTup x fun i => withinD i 1 3) := by
  cases h : tupOfD x 2 with
  | true =>
    obtain ⟨xs, rfl, hl⟩ := tup_of h
    obtain ⟨a, b, rfl⟩ := two_of hl
    simp [frameD, inTup]
  | false =>
    match x, h with
    | .tup [a, b], h => cases h
    | .tup [], _ => rfl
    | .tup [_], _ => rfl
    | .tup (_ :: _ :: _ :: _), _ => rfl
    | .non, _ => rfl
    | .bl _, _ => rfl
    | .int _, _ => rfl
    | .str _, _ => rfl
    | .lst _, _ => rfl
    | .exc _, _ => rfl
def gG_is_frame (ds : List Dt) (d : Dt) : Prop := ∃ x : Dt, ds = [x] ∧ d = .bl (frameD x)
theorem okG_is_frame (T : Txt K mg fa fd) : FnG P w K mg base CX0 2 (fa 9) (fd 9) ["value"] (spD gG_is_frame) := by
  refine fn_D T.d_is_frame.F sc_is_frame (fun ds d h => by obtain ⟨_, rfl, _⟩ := h; rfl) (fun cdv Γ below s B H vs ds d Q E hg hr e ra hd ret => ?_)
  obtain ⟨x, rfl, rfl⟩ := hd
  rcases ra with _ | ⟨r1, _ | _⟩
  obtain ⟨tk, hc_MOST_UNKNOWNS⟩ := T.k_MOST_UNKNOWNS
  refine ⟨_, (pss_one (ps_ret (pe_and (pe_go (okG_is_tuple_of T) hg (hr.mono (by decide)) rfl T.d_is_tuple_of.at_ T.d_is_tuple_of.F.kp (bn_is_tuple_of T) pass0 (pa_cons (pv 0) (pa_cons pe_int pa_nil))) (pe_one (pe_callB (k_all (K := K) rfl rfl) rfl T.n_all (by decide +kernel) (pa_cons (pe_lc (own := [("item", 1)]) (g := (gName 1)) (tt := tYes) rfl sc_is_frame.nd (k_seq (K := K) rfl (pv 0)) (blkOk_by (N := ["value", "item"]) (sc := defScope s_is_frame) (by decide +kernel)) (fun _ _ _ _ _ => (pg_name (i := 1) sc_is_frame.nd rfl (by first | exact Or.inl rfl | exact Or.inr rfl))) (fun _ _ _ _ _ => pts_nil) (fun _ _ _ _ _ => (pe_go (okG_is_within T) hg (hr.mono (by decide)) rfl T.d_is_within.at_ T.d_is_within.F.kp (bn_is_within T) pass0 (pa_cons (pv 1) (pa_cons pe_int (pa_cons (pe_glob (v := .int 3) rfl hc_MOST_UNKNOWNS ⟨_, rfl⟩) pa_nil)))))) pa_nil)))))), ?_⟩
  rw [frameD_of] at ret
  refine s_retE e (x := .bl (tupOfD x 2 && inTup x fun i => withinD i 1 3)) (ev_and (ev_call (ea_cons (ev_v rfl r1) (ea_cons ev_i ea_nil)) ⟨x, 2, rfl, rfl⟩) fun h => ?_) rfl ret
  obtain ⟨xs, rfl, hl⟩ := tup_of h
  exact ev_cb (ea_cons (q_lcD (l := xs) (f := fun i => .bl (withinD i 1 3)) (ev_v rfl r1) (Items.tup _) (by omega) (fun _ => rfl) (fun i v B1 hm hB rv => ev_call (ea_cons (ev_v rfl rv) (ea_cons ev_i (ea_cons ev_i ea_nil))) ⟨i, 1, 3, rfl, rfl⟩)) ea_nil) rl_all

def g_need_frame (ds : List Dt) (d : Dt) : Prop := ∃ a b : Int, ds = [eFr a b] ∧ FrOk a b ∧ d = .non
theorem ok_need_frame (T : Txt K mg fa fd) : FnG P w K mg base CX0 3 (fa 10) (fd 10) ["frame"] (spD g_need_frame) := by
  refine fn_D T.d_need_frame.F sc_need_frame (fun ds d h => by obtain ⟨_, _, rfl, _⟩ := h; rfl) (fun cdv Γ below s B H vs ds d Q E hg hr e ra hd ret => ?_)
  obtain ⟨a, b, rfl, hf, rfl⟩ := hd
  rcases ra with _ | ⟨r1, _ | _⟩
  refine ⟨_, (pss_one (ps_if (pt_not (pt_val (pe_go (ok_is_frame T) hg (hr.mono (by decide)) rfl T.d_is_frame.at_ T.d_is_frame.F.kp (bn_is_frame T) pass0 (pa_cons (pv 0) pa_nil)))) (pss_one ps_never) pss_nil)), ?_⟩
  refine s_if (b := !true) e (ec_not (ec_v (ev_call (by walk_at "u_ea") ⟨a, b, rfl, hf, rfl⟩))) (fun hb => nomatch hb) (fun _ H1 u1 => ?_)
  exact ret _ B H1 u1.new .non

def gG_need_frame (as : List Dt) (b : Bool) : Prop := ∃ x : Dt, as = [x] ∧ b = frameD x
theorem okG_need_frame (T : Txt K mg fa fd) : FnG P w K mg base (L2.CX P w) 3 (fa 10) (fd 10) ["frame"] (spE (cAt mg "InvalidFrame") gG_need_frame) := by
  refine fn_X T.d_need_frame.F sc_need_frame (fun vs H Q E h => by obtain ⟨_, _, _, _, ra, ⟨_, rfl, _⟩, _⟩ := h; rw [ra.len]; rfl) (fun cdv Γ below s H vs Q E hg hr h => ?_)
  obtain ⟨B, as, b, e, ra, ⟨x, rfl, rfl⟩, ret, exc⟩ := h
  rcases ra with _ | ⟨r1, _ | _⟩
  have hu := hr.units
  refine ⟨_, (pss_one (ps_if (pt_not (pt_val (pe_go (okG_is_frame T) hg (hr.mono (by decide)) rfl T.d_is_frame.at_ T.d_is_frame.F.kp (bn_is_frame T) pass0 (pa_cons (pv 0) pa_nil)))) (pss_one (ps_raise rfl (takes_of rfl rfl rfl rfl) (pmk_own PySem.F.excBase_ValueError T.e_InvalidFrame.x T.e_InvalidFrame.g T.e_InvalidFrame.k (raises_own T.e_InvalidFrame.b T.e_InvalidFrame.t) rfl))) pss_nil)), ?_⟩
  refine s_if (b := !frameD x) e (ec_not (ec_v (ev_call (ea_cons (ev_v rfl r1) ea_nil) ⟨x, rfl, rfl⟩))) (fun hb H1 u1 => ?_) (fun hb H1 u1 => ?_)
  · exact exc (by cases h : frameD x <;> simp_all) H1 u1.heap
  · exact ret (by cases h : frameD x <;> simp_all) H1 u1.heap

def g_on_axis (ds : List Dt) (d : Dt) : Prop := ∃ (x y : Dt) (b : Bool), ds = [.tup [x, y], .str (axS b)] ∧ d = if b = true then x else y
theorem axS_x {b : Bool} : decide (axS b = ("x" : Str)) = b := by cases b <;> decide +kernel
theorem ok_on_axis (T : Txt K mg fa fd) : FnG P w K mg base CX0 1 (fa 11) (fd 11) ["pair", "axis"] (spD g_on_axis) := by
  refine fn_D T.d_on_axis.F sc_on_axis (fun ds d h => by obtain ⟨_, _, _, rfl, _⟩ := h; rfl) (fun cdv Γ below s B H vs ds d Q E hg hr e ra hd ret => ?_)
  obtain ⟨x, y, b, rfl, rfl⟩ := hd
  rcases ra with _ | ⟨r1, _ | ⟨r2, _ | _⟩⟩
  have hu := hr.units
  refine ⟨_, (pss_one (ps_ret (pe_ifExp (pt_cmpR (k_eq (K := K) rfl hu) (pv 1) pe_str (nomark _)) (pe_ix (k_ix (K := K) rfl) (pv 0) pe_int (fun _ _ => rfl)) (pe_ix (k_ix (K := K) rfl) (pv 0) pe_int (fun _ _ => rfl))))), ?_⟩
  refine s_ret e (ev_if (b := b) (EvC.is (ec_t (ev_op (ev_v rfl r2) ev_s (rv_inl rv_eqS))) axS_x) (fun hb => ?_) (fun hb => ?_)) ret
  · rw [if_pos hb]
    exact ev_op (by walk_at "u_ev") ev_i (rv_ixT rfl)
  · rw [if_neg (by rw [hb]; exact Bool.false_ne_true)]
    exact ev_op (by walk_at "u_ev") ev_i (rv_ixT rfl)

def g_is_row (ds : List Dt) (d : Dt) : Prop := ∃ (ns : List Int) (n : Int), ds = [eI ns, .int n] ∧ (ns.length : Int) = n ∧ ns.length < 1000 ∧ d = .bl true
theorem ok_is_row (T : Txt K mg fa fd) : FnG P w K mg base CX0 1 (fa 15) (fd 15) ["value", "many"] (spD g_is_row) := by
  refine fn_D T.d_is_row.F sc_is_row (fun ds d h => by obtain ⟨_, _, rfl, _⟩ := h; rfl) (fun cdv Γ below s B H vs ds d Q E hg hr e ra hd ret => ?_)
  obtain ⟨ns, n, rfl, hn, hl, rfl⟩ := hd
  rcases ra with _ | ⟨r1, _ | ⟨r2, _ | _⟩⟩
  cases r2
  have hu := hr.units
  refine ⟨_, (pss_one (ps_ret (pe_and (pe_cmpR op_isT (pe_typeX rfl T.n_type (pv 0)) (pe_bltn (v := .ty "list") rfl T.n_list (by decide +kernel) rfl) (nomark _)) (pe_and (pe_cmpR (k_eq (K := K) rfl hu) (pe_callB (k_len (K := K) rfl) rfl T.n_len (by decide +kernel) (pa_cons (pv 0) pa_nil)) (pv 1) (nomark _)) (pe_one (pe_callB (k_all (K := K) rfl rfl) rfl T.n_all (by decide +kernel) (pa_cons (pe_lc (own := [("item", 2)]) (g := (gName 2)) (tt := tYes) rfl sc_is_row.nd (k_seq (K := K) rfl (pv 0)) (blkOk_by (N := ["value", "many", "item"]) (sc := defScope s_is_row) (by decide +kernel)) (fun _ _ _ _ _ => (pg_name (i := 2) sc_is_row.nd rfl (by first | exact Or.inl rfl | exact Or.inr rfl))) (fun _ _ _ _ _ => pts_nil) (fun _ _ _ _ _ => (pe_cmpR op_isT (pe_typeX rfl T.n_type (pv 2)) (pe_bltn (v := .ty "int") rfl T.n_int (by decide +kernel) rfl) (nomark _)))) pa_nil))))))), ?_⟩
  refine s_retE e (ev_and (by walk_at "u_ev") fun _ => ev_and (by walk_at "u_ev") fun _ => ev_cb (ea_cons (q_lc1 (l := ns) (enc := Dt.int) (f := fun q => Dt.bl (decide ((Dt.int q).kind = "int"))) (by walk_at "u_ev") (Items.lst _) (by omega) (fun _ => rfl) (fun q v B1 hm hB rv => ?_)) ea_nil) rl_all) ?_ (fun v B1 H2 n1 rv => ret v B1 H2 n1 rv)
  · cases rv
    walk_at "u_ev"
  · simp [Dt.kind, hn]

def isI (d : Dt) : Bool := decide (d.kind = "int")
def rowD (d : Dt) (n : Int) : Bool := match d with
  | .lst xs => decide (((xs.length : Nat) : Int) = n) && xs.all isI
  | _ => false
def gG_is_row (ds : List Dt) (d : Dt) : Prop := ∃ (x : Dt) (n : Int), ds = [x, .int n] ∧ x.okz = true ∧ d = .bl (rowD x n)
theorem okG_is_row (T : Txt K mg fa fd) : FnG P w K mg base CX0 1 (fa 15) (fd 15) ["value", "many"] (spD gG_is_row) := by
  refine fn_D T.d_is_row.F sc_is_row (fun ds d h => by obtain ⟨_, _, rfl, _⟩ := h; rfl) (fun cdv Γ below s B H vs ds d Q E hg hr e ra hd ret => ?_)
  obtain ⟨x, n, rfl, hz, rfl⟩ := hd
  rcases ra with _ | ⟨r1, _ | ⟨r2, _ | _⟩⟩
  cases r2
  have hu := hr.units
  refine ⟨_, (pss_one (ps_ret (pe_and (pe_cmpR op_isT (pe_typeX rfl T.n_type (pv 0)) (pe_bltn (v := .ty "list") rfl T.n_list (by decide +kernel) rfl) (nomark _)) (pe_and (pe_cmpR (k_eq (K := K) rfl hu) (pe_callB (k_len (K := K) rfl) rfl T.n_len (by decide +kernel) (pa_cons (pv 0) pa_nil)) (pv 1) (nomark _)) (pe_one (pe_callB (k_all (K := K) rfl rfl) rfl T.n_all (by decide +kernel) (pa_cons (pe_lc (own := [("item", 2)]) (g := (gName 2)) (tt := tYes) rfl sc_is_row.nd (k_seq (K := K) rfl (pv 0)) (blkOk_by (N := ["value", "many", "item"]) (sc := defScope s_is_row) (by decide +kernel)) (fun _ _ _ _ _ => (pg_name (i := 2) sc_is_row.nd rfl (by first | exact Or.inl rfl | exact Or.inr rfl))) (fun _ _ _ _ _ => pts_nil) (fun _ _ _ _ _ => (pe_cmpR op_isT (pe_typeX rfl T.n_type (pv 2)) (pe_bltn (v := .ty "int") rfl T.n_int (by decide +kernel) rfl) (nomark _)))) pa_nil))))))), ?_⟩
  refine s_retE e (x := .bl (rowD x n)) ?_ rfl ret
  by_cases hk : x.kind = "list"
  · cases x <;> first | (rename_i xs; exact EvR.is (ev_and (b := decide (((xs.length : Nat) : Int) = n) && xs.all isI) (ev_isTy (ev_v rfl r1)) fun _ => ev_and (ev_op (ev_cb (ea_cons (ev_v rfl r1) ea_nil) rl_lenL) (ev_v rfl (.int _)) (rv_inl rv_eqI)) fun _ => ev_cb (ea_cons (q_lcD (l := xs) (f := fun i => .bl (isI i)) (ev_v rfl r1) (Items.lst _) (by have := okz_lst hz; omega) (fun _ => rfl) (fun i v B1 hm hB rv => ev_isTy (ev_v rfl rv))) ea_nil) rl_all) rfl) | exact absurd hk (by simp [Dt.kind])
  · have e1 : rowD x n = false := by cases x <;> first | rfl | exact absurd rfl hk
    rw [e1]
    exact ev_andF (ev_isTy (ev_v rfl r1)) (decide_eq_false hk)

def SetOk (a b : Int) (p q : List Int) : Prop := (p.length : Int) = a ∧ (q.length : Int) = b ∧ FrOk a b
def g_is_setting (ds : List Dt) (d : Dt) : Prop := ∃ (a b : Int) (p q : List Int), ds = [eFr a b, eSet p q] ∧ SetOk a b p q ∧ d = .bl true
theorem ok_is_setting (T : Txt K mg fa fd) : FnG P w K mg base CX0 4 (fa 16) (fd 16) ["frame", "value"] (spD g_is_setting) := by
  refine fn_D T.d_is_setting.F sc_is_setting (fun ds d h => by obtain ⟨_, _, _, _, rfl, _⟩ := h; rfl) (fun cdv Γ below s B H vs ds d Q E hg hr e ra hd ret => ?_)
  obtain ⟨a, b, p, q, rfl, ⟨h1, h2, hf⟩, rfl⟩ := hd
  rcases ra with _ | ⟨r1, _ | ⟨r2, _ | _⟩⟩
  have hl1 : p.length < 1000 := by have := hf.2.1; omega
  have hl2 : q.length < 1000 := by have := hf.2.2.2; omega
  refine ⟨_, (pss_cons (ps_expr (pe_go (ok_need_frame T) hg (hr.mono (by decide)) rfl T.d_need_frame.at_ T.d_need_frame.F.kp (bn_need_frame T) pass0 (pa_cons (pv 0) pa_nil))) (pss_one (ps_ret (pe_and (pe_go (ok_is_tuple_of T) hg (hr.mono (by decide)) rfl T.d_is_tuple_of.at_ T.d_is_tuple_of.F.kp (bn_is_tuple_of T) pass0 (pa_cons (pv 1) (pa_cons pe_int pa_nil))) (pe_and (pe_go (ok_is_row T) hg (hr.mono (by decide)) rfl T.d_is_row.at_ T.d_is_row.F.kp (bn_is_row T) pass0 (pa_cons (pe_ix (k_ix (K := K) rfl) (pv 1) pe_int (fun _ _ => rfl)) (pa_cons (pe_ix (k_ix (K := K) rfl) (pv 0) pe_int (fun _ _ => rfl)) pa_nil))) (pe_one (pe_go (ok_is_row T) hg (hr.mono (by decide)) rfl T.d_is_row.at_ T.d_is_row.F.kp (bn_is_row T) pass0 (pa_cons (pe_ix (k_ix (K := K) rfl) (pv 1) pe_int (fun _ _ => rfl)) (pa_cons (pe_ix (k_ix (K := K) rfl) (pv 0) pe_int (fun _ _ => rfl)) pa_nil))))))))), ?_⟩
  refine s_seq (s_drop e (ev_call (by walk_at "u_ea") ⟨a, b, rfl, hf, rfl⟩) fun H1 u1 => ?_)
  walk_at "u_n"
  refine s_retE u1.sub (ev_and (ev_call (by walk_at "u_ea") ⟨_, _, rfl, rfl⟩) fun _ => ev_and (ev_call (by walk_at "u_ea") ⟨p, a, rfl, h1, hl1, rfl⟩) fun _ => ev_call (by walk_at "u_ea") ⟨q, b, rfl, h2, hl2, rfl⟩) ?_ (fun v B1 H2 n1 rv => ret v B1 H2 (u1.new.trans n1) rv)
  rfl

def setIn (a b : Int) (v : Dt) : Bool := match v with
  | .tup [p, q] => rowD p a && rowD q b
  | _ => false
def settingD (a b : Int) (d : Dt) : Bool := match d with
  | .tup [p, q] => rowD p a && rowD q b
  | _ => false
/-- what is said of a frame and a value -/
def onFrame (f : Dt) (g : Int → Int → Bool) : Option Bool := match f with
  | .tup [.int a, .int b] => if frameD (.tup [.int a, .int b]) = true then some (g a b) else none
  | _ => none
theorem within_int {x : Dt} {lo hi : Int} (h : withinD x lo hi = true) : ∃ i, x = .int i ∧ lo ≤ i ∧ i ≤ hi := by
  cases x with
  | int i =>
    have h : (decide (lo ≤ i) && decide (i ≤ hi)) = true := h
    rw [Bool.and_eq_true, decide_eq_true_eq, decide_eq_true_eq] at h
    exact ⟨i, rfl, h.1, h.2⟩
  | _ => cases h
theorem frame_of {x : Dt} (h : frameD x = true) : ∃ a b : Int, x = eFr a b ∧ 1 ≤ a ∧ a ≤ 3 ∧ 1 ≤ b ∧ b ≤ 3 := by
  rw [frameD_of, Bool.and_eq_true] at h
  obtain ⟨xs, rfl, hl⟩ := tup_of h.1
  obtain ⟨p, q, rfl⟩ := two_of hl
  have h2 := h.2
  simp only [inTup, List.all_cons, List.all_nil, Bool.and_true, Bool.and_eq_true] at h2
  obtain ⟨a, rfl, a1, a2⟩ := within_int h2.1
  obtain ⟨b, rfl, b1, b2⟩ := within_int h2.2
  exact ⟨a, b, rfl, a1, a2, b1, b2⟩
theorem onFrame_yes {a b : Int} {g : Int → Int → Bool} (h : frameD (eFr a b) = true) : onFrame (eFr a b) g = some (g a b) := by
  unfold onFrame
  exact if_pos h
theorem onFrame_no {x : Dt} {g : Int → Int → Bool} (h : frameD x = false) : onFrame x g = none := by
  unfold onFrame
  split
  · exact if_neg (by rw [h]; exact Bool.false_ne_true)
  · rfl
def gG_is_setting (as : List Dt) (o : Option Bool) : Prop := ∃ f v : Dt, as = [f, v] ∧ v.okz = true ∧ o = onFrame f fun a b => settingD a b v
theorem okG_is_setting (T : Txt K mg fa fd) : FnG P w K mg base (L2.CX P w) 4 (fa 16) (fd 16) ["frame", "value"] (spB (cAt mg "InvalidFrame") gG_is_setting) := by
  refine fn_X T.d_is_setting.F sc_is_setting (fun vs H Q E h => by obtain ⟨_, _, _, _, ra, ⟨_, _, rfl, _⟩, _⟩ := h; rw [ra.len]; rfl) (fun cdv Γ below s H vs Q E hg hr h => ?_)
  obtain ⟨B, as, o, e, ra, ⟨f, v, rfl, hz, rfl⟩, ret, exc⟩ := h
  rcases ra with _ | ⟨r1, _ | ⟨r2, _ | _⟩⟩
  have hu := hr.units
  refine ⟨_, (pss_cons (ps_expr (pe_go (okG_need_frame T) hg (hr.mono (by decide)) rfl T.d_need_frame.at_ T.d_need_frame.F.kp (bn_need_frame T) (passes_call (takes_of rfl rfl rfl rfl) (fun _ _ _ _ h => h)) (pa_cons (pv 0) pa_nil))) (pss_one (ps_ret (pe_and (pe_go (okG_is_tuple_of T) hg (hr.mono (by decide)) rfl T.d_is_tuple_of.at_ T.d_is_tuple_of.F.kp (bn_is_tuple_of T) pass0 (pa_cons (pv 1) (pa_cons pe_int pa_nil))) (pe_and (pe_go (okG_is_row T) hg (hr.mono (by decide)) rfl T.d_is_row.at_ T.d_is_row.F.kp (bn_is_row T) pass0 (pa_cons (pe_ix (k_ix (K := K) rfl) (pv 1) pe_int (fun _ _ => rfl)) (pa_cons (pe_ix (k_ix (K := K) rfl) (pv 0) pe_int (fun _ _ => rfl)) pa_nil))) (pe_one (pe_go (okG_is_row T) hg (hr.mono (by decide)) rfl T.d_is_row.at_ T.d_is_row.F.kp (bn_is_row T) pass0 (pa_cons (pe_ix (k_ix (K := K) rfl) (pv 1) pe_int (fun _ _ => rfl)) (pa_cons (pe_ix (k_ix (K := K) rfl) (pv 0) pe_int (fun _ _ => rfl)) pa_nil))))))))), ?_⟩
  refine s_seq (s_need e (ea_cons (ev_v rfl r1) ea_nil) ⟨f, rfl, rfl⟩ (fun hb H1 u1 => ?_) (fun hb H1 e1 => exc (onFrame_no hb) H1 e1))
  obtain ⟨a, b, rfl, _⟩ := frame_of hb
  rw [onFrame_yes hb] at ret
  walk_at "u_n"
  refine s_retE (x := .bl (settingD a b v)) u1.sub ?_ rfl (fun w B2 H2 n2 rw => by cases rw; exact ret _ rfl H2 (u1.heap.trans n2.heap))
  have e0 : settingD a b v = (tupOfD v 2 && setIn a b v) := by
    cases h : tupOfD v 2 with
    | true => rfl
    | false =>
      match v, h with
      | .tup [_, _], h => cases h
      | .tup [], _ => rfl
      | .tup [_], _ => rfl
      | .tup (_ :: _ :: _ :: _), _ => rfl
      | .non, _ => rfl
      | .bl _, _ => rfl
      | .int _, _ => rfl
      | .str _, _ => rfl
      | .lst _, _ => rfl
      | .exc _, _ => rfl
  rw [e0]
  refine ev_and (ev_call (ea_cons (ev_v rfl r2) (ea_cons ev_i ea_nil)) ⟨v, 2, rfl, rfl⟩) fun h => ?_
  obtain ⟨xs, rfl, hl⟩ := tup_of h
  obtain ⟨p, q, rfl⟩ := two_of hl
  have hz2 := (okz_tup hz).2
  exact ev_and (ev_call (ea_cons (ev_op (ev_v rfl r2) ev_i (rv_ixT rfl)) (ea_cons (ev_op (ev_v rfl r1) ev_i (rv_ixT rfl)) ea_nil)) ⟨p, a, rfl, okz_mem hz2 (by simp), rfl⟩) fun _ => ev_call (ea_cons (ev_op (ev_v rfl r2) ev_i (rv_ixT rfl)) (ea_cons (ev_op (ev_v rfl r1) ev_i (rv_ixT rfl)) ea_nil)) ⟨q, b, rfl, okz_mem hz2 (by simp), rfl⟩

def g_need_setting (ds : List Dt) (d : Dt) : Prop := ∃ (a b : Int) (p q : List Int), ds = [eFr a b, eSet p q] ∧ SetOk a b p q ∧ d = .non
theorem ok_need_setting (T : Txt K mg fa fd) : FnG P w K mg base CX0 5 (fa 17) (fd 17) ["frame", "setting"] (spD g_need_setting) := by
  refine fn_D T.d_need_setting.F sc_need_setting (fun ds d h => by obtain ⟨_, _, _, _, rfl, _⟩ := h; rfl) (fun cdv Γ below s B H vs ds d Q E hg hr e ra hd ret => ?_)
  obtain ⟨a, b, p, q, rfl, hf, rfl⟩ := hd
  rcases ra with _ | ⟨r1, _ | ⟨r2, _ | _⟩⟩
  refine ⟨_, (pss_one (ps_if (pt_not (pt_val (pe_go (ok_is_setting T) hg (hr.mono (by decide)) rfl T.d_is_setting.at_ T.d_is_setting.F.kp (bn_is_setting T) pass0 (pa_cons (pv 0) (pa_cons (pv 1) pa_nil))))) (pss_one ps_never) pss_nil)), ?_⟩
  refine s_if (b := !true) e (ec_not (ec_v (ev_call (by walk_at "u_ea") ⟨a, b, p, q, rfl, hf, rfl⟩))) (fun hb => nomatch hb) (fun _ H1 u1 => ?_)
  exact ret _ B H1 u1.new .non

def g_is_fact (ds : List Dt) (d : Dt) : Prop := ∃ (a b : Int) (f : Fa), ds = [eFr a b, eFa f] ∧ FaOk a b f ∧ d = .bl true
theorem onFr (a b : Int) (f : Fa) : (if f.ax = true then Dt.int a else Dt.int b) = Dt.int (f.n a b) := by unfold Fa.n; split <;> rfl
theorem ok_is_fact (T : Txt K mg fa fd) : FnG P w K mg base CX0 2 (fa 18) (fd 18) ["frame", "value"] (spD g_is_fact) := by
  refine fn_D T.d_is_fact.F sc_is_fact (fun ds d h => by obtain ⟨_, _, _, rfl, _⟩ := h; rfl) (fun cdv Γ below s B H vs ds d Q E hg hr e ra hd ret => ?_)
  obtain ⟨a, b, f, rfl, ⟨i0, i1, j0, j1, l0, l1⟩, rfl⟩ := hd
  rcases ra with _ | ⟨r1, _ | ⟨r2, _ | _⟩⟩
  obtain ⟨tk, hc_MOST_LEAST⟩ := T.k_MOST_LEAST
  refine ⟨_, (pss_cons (ps_if (pt_not (pt_val (pe_go (ok_is_tuple_of T) hg (hr.mono (by decide)) rfl T.d_is_tuple_of.at_ T.d_is_tuple_of.F.kp (bn_is_tuple_of T) pass0 (pa_cons (pv 1) (pa_cons pe_int pa_nil))))) (pss_one (ps_ret pe_bl)) pss_nil) (pss_cons (ps_asg (pv 1) (pg_tup rfl (pgs_cons (pg_name (i := 2) sc_is_fact.nd rfl (by first | exact Or.inl rfl | exact Or.inr rfl)) (pgs_cons (pg_name (i := 3) sc_is_fact.nd rfl (by first | exact Or.inl rfl | exact Or.inr rfl)) (pgs_cons (pg_name (i := 4) sc_is_fact.nd rfl (by first | exact Or.inl rfl | exact Or.inr rfl)) (pgs_cons (pg_name (i := 5) sc_is_fact.nd rfl (by first | exact Or.inl rfl | exact Or.inr rfl)) pgs_nil)))))) (pss_cons (ps_if (pt_not (pt_val (pe_go (ok_is_axis T) hg (hr.mono (by decide)) rfl T.d_is_axis.at_ T.d_is_axis.F.kp (bn_is_axis T) pass0 (pa_cons (pv 2) pa_nil)))) (pss_one (ps_ret pe_bl)) pss_nil) (pss_cons (ps_set (i := 6) sc_is_fact.nd rfl (by first | exact Or.inl rfl | exact Or.inr rfl) (pe_op op_sub (pe_go (ok_on_axis T) hg (hr.mono (by decide)) rfl T.d_on_axis.at_ T.d_on_axis.F.kp (bn_on_axis T) pass0 (pa_cons (pv 0) (pa_cons (pv 2) pa_nil))) pe_int)) (pss_one (ps_ret (pe_and (pe_go (ok_is_within T) hg (hr.mono (by decide)) rfl T.d_is_within.at_ T.d_is_within.F.kp (bn_is_within T) pass0 (pa_cons (pv 3) (pa_cons pe_int (pa_cons (pv 6) pa_nil)))) (pe_and (pe_go (ok_is_within T) hg (hr.mono (by decide)) rfl T.d_is_within.at_ T.d_is_within.F.kp (bn_is_within T) pass0 (pa_cons (pv 4) (pa_cons pe_int (pa_cons (pv 6) pa_nil)))) (pe_one (pe_go (ok_is_within T) hg (hr.mono (by decide)) rfl T.d_is_within.at_ T.d_is_within.F.kp (bn_is_within T) pass0 (pa_cons (pv 5) (pa_cons (pe_un un_neg (pe_glob (v := .int 6) rfl hc_MOST_LEAST ⟨_, rfl⟩)) (pa_cons (pe_glob (v := .int 6) rfl hc_MOST_LEAST ⟨_, rfl⟩) pa_nil))))))))))))), ?_⟩
  refine s_seq (s_if (b := !true) e (ec_not (ec_v (ev_call (by walk_at "u_ea") ⟨_, _, rfl, rfl⟩))) (fun hb => nomatch hb) (fun _ H1 u1 => ?_))
  walk_at "u_n"
  refine s_seq (s_asg4 u1.sub (by walk_at "u_ev") fun v1 v2 v3 v4 B1 H2 n1 q1 q2 q3 q4 => ?_)
  cases q2; cases q3; cases q4
  walk_at "u_n"
  refine s_seq (s_if (b := !true) n1.sub (ec_not (ec_v (ev_call (by walk_at "u_ea") ⟨_, rfl, rfl⟩))) (fun hb => nomatch hb) (fun _ H3 u3 => ?_))
  walk_at "u_n"
  refine s_seq (s_asg (d := .int (f.n a b - 1)) u3.sub (ev_op (EvR.is (ev_call (by walk_at "u_ea") ⟨_, _, f.ax, rfl, rfl⟩) (onFr a b f)) ev_i rv_sub) fun v5 B5 H5 n5 r5 => ?_)
  cases r5
  walk_at "u_n"
  refine s_retE n5.sub (ev_and (ev_call (by walk_at "u_ea") ⟨_, _, _, rfl, rfl⟩) fun _ => ev_and (ev_call (by walk_at "u_ea") ⟨_, _, _, rfl, rfl⟩) fun _ => ev_call (by walk_at "u_ea") ⟨_, _, _, rfl, rfl⟩) ?_ (fun v B6 H6 n6 rv => ret v B6 H6 ((((u1.new.trans n1).trans u3.new).trans n5).trans n6) rv)
  have h1 : f.i ≤ f.n a b - 1 := by omega
  have h2 : f.j ≤ f.n a b - 1 := by omega
  simp [i0, j0, h1, h2, l0, l1]

def axN (x : Dt) (a b : Int) : Int := match x with
  | .str s => if s = "x" then a else b
  | _ => b
def factD (a b : Int) (v : Dt) : Bool := match v with
  | .tup [x, i, j, l] => axisD x && (withinD i 0 (axN x a b - 1) && (withinD j 0 (axN x a b - 1) && withinD l (-6) 6))
  | _ => false
theorem axisD_of {x : Dt} (h : axisD x = true) : ∃ q : Bool, x = .str (axS q) := by
  cases x with
  | str s =>
    have h : inV (.str s) [.str "x", .str "y"] = true := h
    by_cases h1 : s = "x"
    · exact ⟨true, by rw [h1]; rfl⟩
    · by_cases h2 : s = "y"
      · exact ⟨false, by rw [h2]; rfl⟩
      · exfalso
        unfold inV at h
        simp [eqV] at h
        rcases h with h | h
        · exact h1 h.symm
        · exact h2 h.symm
  | _ => cases h
theorem four_of {xs : List Dt} (h : ((xs.length : Nat) : Int) = 4) : ∃ a b c d, xs = [a, b, c, d] := by
  match xs, h with
  | [a, b, c, d], _ => exact ⟨a, b, c, d, rfl⟩
  | [], h => cases h
  | [_], h => cases h
  | [_, _], h => cases h
  | [_, _, _], h => cases h
  | _ :: _ :: _ :: _ :: _ :: _, h => simp at h; omega
theorem axN_x {q : Bool} {a b : Int} : Dt.int (axN (.str (axS q)) a b) = if q = true then Dt.int a else Dt.int b := by
  have hx : (("y" : Str) = "x") → False := by decide +kernel
  cases q
  · show Dt.int (if ("y" : Str) = "x" then a else b) = _
    rw [if_neg (fun z => hx z)]; rfl
  · rfl
def gG_is_fact (ds : List Dt) (d : Dt) : Prop := ∃ (a b : Int) (v : Dt), ds = [eFr a b, v] ∧ d = .bl (factD a b v)
theorem okG_is_fact (T : Txt K mg fa fd) : FnG P w K mg base CX0 2 (fa 18) (fd 18) ["frame", "value"] (spD gG_is_fact) := by
  refine fn_D T.d_is_fact.F sc_is_fact (fun ds d h => by obtain ⟨_, _, _, rfl, _⟩ := h; rfl) (fun cdv Γ below s B H vs ds d Q E hg hr e ra hd ret => ?_)
  obtain ⟨a, b, v, rfl, rfl⟩ := hd
  rcases ra with _ | ⟨r1, _ | ⟨r2, _ | _⟩⟩
  have hu := hr.units
  obtain ⟨tk, hc_MOST_LEAST⟩ := T.k_MOST_LEAST
  refine ⟨_, (pss_cons (ps_if (pt_not (pt_val (pe_go (okG_is_tuple_of T) hg (hr.mono (by decide)) rfl T.d_is_tuple_of.at_ T.d_is_tuple_of.F.kp (bn_is_tuple_of T) pass0 (pa_cons (pv 1) (pa_cons pe_int pa_nil))))) (pss_one (ps_ret pe_bl)) pss_nil) (pss_cons (ps_asg (pv 1) (pg_tup rfl (pgs_cons (pg_name (i := 2) sc_is_fact.nd rfl (by first | exact Or.inl rfl | exact Or.inr rfl)) (pgs_cons (pg_name (i := 3) sc_is_fact.nd rfl (by first | exact Or.inl rfl | exact Or.inr rfl)) (pgs_cons (pg_name (i := 4) sc_is_fact.nd rfl (by first | exact Or.inl rfl | exact Or.inr rfl)) (pgs_cons (pg_name (i := 5) sc_is_fact.nd rfl (by first | exact Or.inl rfl | exact Or.inr rfl)) pgs_nil)))))) (pss_cons (ps_if (pt_not (pt_val (pe_go (okG_is_axis T) hg (hr.mono (by decide)) rfl T.d_is_axis.at_ T.d_is_axis.F.kp (bn_is_axis T) pass0 (pa_cons (pv 2) pa_nil)))) (pss_one (ps_ret pe_bl)) pss_nil) (pss_cons (ps_set (i := 6) sc_is_fact.nd rfl (by first | exact Or.inl rfl | exact Or.inr rfl) (pe_op op_sub (pe_go (ok_on_axis T) hg (hr.mono (by decide)) rfl T.d_on_axis.at_ T.d_on_axis.F.kp (bn_on_axis T) pass0 (pa_cons (pv 0) (pa_cons (pv 2) pa_nil))) pe_int)) (pss_one (ps_ret (pe_and (pe_go (okG_is_within T) hg (hr.mono (by decide)) rfl T.d_is_within.at_ T.d_is_within.F.kp (bn_is_within T) pass0 (pa_cons (pv 3) (pa_cons pe_int (pa_cons (pv 6) pa_nil)))) (pe_and (pe_go (okG_is_within T) hg (hr.mono (by decide)) rfl T.d_is_within.at_ T.d_is_within.F.kp (bn_is_within T) pass0 (pa_cons (pv 4) (pa_cons pe_int (pa_cons (pv 6) pa_nil)))) (pe_one (pe_go (okG_is_within T) hg (hr.mono (by decide)) rfl T.d_is_within.at_ T.d_is_within.F.kp (bn_is_within T) pass0 (pa_cons (pv 5) (pa_cons (pe_un un_neg (pe_glob (v := .int 6) rfl hc_MOST_LEAST ⟨_, rfl⟩)) (pa_cons (pe_glob (v := .int 6) rfl hc_MOST_LEAST ⟨_, rfl⟩) pa_nil))))))))))))), ?_⟩
  refine s_seq (s_if (b := !tupOfD v 4) e (ec_not (ec_v (ev_call (ea_cons (ev_v rfl r2) (ea_cons ev_i ea_nil)) ⟨v, 4, rfl, rfl⟩))) (fun hb H1 u1 => ?_) (fun hb H1 u1 => ?_))
  · refine s_retE u1.sub ev_b ?_ (fun w B2 H2 n2 rw => ret w B2 H2 (u1.new.trans n2) rw)
    have hb : tupOfD v 4 = false := by cases h : tupOfD v 4 <;> simp_all
    have : factD a b v = false := by
      match v, hb with
      | .tup [_, _, _, _], h => cases h
      | .tup [], _ => rfl
      | .tup [_], _ => rfl
      | .tup [_, _], _ => rfl
      | .tup [_, _, _], _ => rfl
      | .tup (_ :: _ :: _ :: _ :: _ :: _), _ => rfl
      | .non, _ => rfl
      | .bl _, _ => rfl
      | .int _, _ => rfl
      | .str _, _ => rfl
      | .lst _, _ => rfl
      | .exc _, _ => rfl
    rw [this]
  · have hb : tupOfD v 4 = true := by cases h : tupOfD v 4 <;> simp_all
    obtain ⟨xs, rfl, hl⟩ := tup_of hb
    obtain ⟨x, i, j, l, rfl⟩ := four_of hl
    walk_at "u_n"
    refine s_seq (s_asg4 u1.sub (ev_v rfl r2) fun v1 v2 v3 v4 B1 H2 n1 q1 q2 q3 q4 => ?_)
    walk_at "u_n"
    have N1 := u1.new.trans n1
    refine s_seq (s_if (b := !axisD x) n1.sub (ec_not (ec_v (ev_call (ea_cons (ev_v rfl q1) ea_nil) ⟨x, rfl, rfl⟩))) (fun hb H3 u3 => ?_) (fun hb H3 u3 => ?_))
    · refine s_retE u3.sub ev_b ?_ (fun w B2 H2 n2 rw => ret w B2 H2 ((N1.trans u3.new).trans n2) rw)
      have hb : axisD x = false := by cases h : axisD x <;> simp_all
      show Dt.bl false = Dt.bl (axisD x && _)
      rw [hb]; rfl
    · have hb : axisD x = true := by cases h : axisD x <;> simp_all
      obtain ⟨q, rfl⟩ := axisD_of hb
      walk_at "u_n"
      refine s_seq (s_asg (d := .int (axN (.str (axS q)) a b - 1)) u3.sub (ev_op (EvR.is (ev_call (ea_cons (ev_v rfl (r1.mono n1.ext)) (ea_cons (ev_v rfl q1) ea_nil)) ⟨_, _, q, rfl, rfl⟩) axN_x.symm) ev_i rv_sub) fun v7 B4 H4 n4 q7 => ?_)
      cases q7
      walk_at "u_n"
      refine s_retE n4.sub (x := .bl (withinD i 0 (axN (.str (axS q)) a b - 1) && (withinD j 0 (axN (.str (axS q)) a b - 1) && withinD l (-6) 6))) (ev_and (ev_call (ea_cons (ev_v rfl (q2.mono n4.ext)) (ea_cons ev_i (ea_cons (ev_v rfl (.int _)) ea_nil))) ⟨i, 0, _, rfl, rfl⟩) fun _ => ev_and (ev_call (ea_cons (ev_v rfl (q3.mono n4.ext)) (ea_cons ev_i (ea_cons (ev_v rfl (.int _)) ea_nil))) ⟨j, 0, _, rfl, rfl⟩) fun _ => ev_call (ea_cons (ev_v rfl (q4.mono n4.ext)) (ea_cons (ev_un ev_i ru_neg) (ea_cons ev_i ea_nil))) ⟨l, -6, 6, rfl, rfl⟩) ?_ (fun w B2 H2 n2 rw => ret w B2 H2 (((N1.trans u3.new).trans n4).trans n2) rw)
      show Dt.bl _ = Dt.bl (axisD _ && _)
      rw [hb]; rfl

def FasOk (a b : Int) (fs : List Fa) : Prop := FrOk a b ∧ fs.length ≤ 6 ∧ ∀ f ∈ fs, FaOk a b f
def g_is_facts (ds : List Dt) (d : Dt) : Prop := ∃ (a b : Int) (fs : List Fa), ds = [eFr a b, eFas fs] ∧ FasOk a b fs ∧ d = .bl true
theorem ok_is_facts (T : Txt K mg fa fd) : FnG P w K mg base CX0 4 (fa 19) (fd 19) ["frame", "value"] (spD g_is_facts) := by
  refine fn_D T.d_is_facts.F sc_is_facts (fun ds d h => by obtain ⟨_, _, _, rfl, _⟩ := h; rfl) (fun cdv Γ below s B H vs ds d Q E hg hr e ra hd ret => ?_)
  obtain ⟨a, b, fs, rfl, ⟨hf, hl, hk⟩, rfl⟩ := hd
  rcases ra with _ | ⟨r1, _ | ⟨r2, _ | _⟩⟩
  have hu := hr.units
  obtain ⟨tk, hc_MOST_FACTS⟩ := T.k_MOST_FACTS
  refine ⟨_, (pss_cons (ps_expr (pe_go (ok_need_frame T) hg (hr.mono (by decide)) rfl T.d_need_frame.at_ T.d_need_frame.F.kp (bn_need_frame T) pass0 (pa_cons (pv 0) pa_nil))) (pss_one (ps_ret (pe_and (pe_cmpR op_isT (pe_typeX rfl T.n_type (pv 1)) (pe_bltn (v := .ty "list") rfl T.n_list (by decide +kernel) rfl) (nomark _)) (pe_and (pe_cmpR op_le (pe_callB (k_len (K := K) rfl) rfl T.n_len (by decide +kernel) (pa_cons (pv 1) pa_nil)) (pe_glob (v := .int 6) rfl hc_MOST_FACTS ⟨_, rfl⟩) (nomark _)) (pe_one (pe_callB (k_all (K := K) rfl rfl) rfl T.n_all (by decide +kernel) (pa_cons (pe_lc (own := [("item", 2)]) (g := (gName 2)) (tt := tYes) rfl sc_is_facts.nd (k_seq (K := K) rfl (pv 1)) (blkOk_by (N := ["frame", "value", "item"]) (sc := defScope s_is_facts) (by decide +kernel)) (fun _ _ _ _ _ => (pg_name (i := 2) sc_is_facts.nd rfl (by first | exact Or.inl rfl | exact Or.inr rfl))) (fun _ _ _ _ _ => pts_nil) (fun _ _ _ _ _ => (pe_go (ok_is_fact T) hg (hr.mono (by decide)) rfl T.d_is_fact.at_ T.d_is_fact.F.kp (bn_is_fact T) pass0 (pa_cons (pv 0) (pa_cons (pv 2) pa_nil))))) pa_nil)))))))), ?_⟩
  refine s_seq (s_drop e (ev_call (by walk_at "u_ea") ⟨a, b, rfl, hf, rfl⟩) fun H1 u1 => ?_)
  walk_at "u_n"
  refine s_retE u1.sub (ev_and (by walk_at "u_ev") fun _ => ev_and (by walk_at "u_ev") fun _ => ev_cb (ea_cons (q_lc1 (l := fs) (enc := eFa) (f := fun _ => Dt.bl true) (by walk_at "u_ev") (Items.lst _) (by omega) (fun _ => rfl) (fun f v B1 hm hB rv => ?_)) ea_nil) (rl_all (p := fun _ => true))) ?_ (fun v B6 H6 n6 rv => ret v B6 H6 (u1.new.trans n6) rv)
  · exact ev_call (by walk_at "u_ea") ⟨a, b, f, rfl, hk f hm, rfl⟩
  · have : (fs.length : Int) ≤ 6 := by omega
    simp [Dt.kind, this]

def factsD (a b : Int) (v : Dt) : Bool := match v with
  | .lst xs => decide (((xs.length : Nat) : Int) ≤ 6) && xs.all (factD a b)
  | _ => false
def gG_is_facts (as : List Dt) (o : Option Bool) : Prop := ∃ f v : Dt, as = [f, v] ∧ v.okz = true ∧ o = onFrame f fun a b => factsD a b v
theorem okG_is_facts (T : Txt K mg fa fd) : FnG P w K mg base (L2.CX P w) 4 (fa 19) (fd 19) ["frame", "value"] (spB (cAt mg "InvalidFrame") gG_is_facts) := by
  refine fn_X T.d_is_facts.F sc_is_facts (fun vs H Q E h => by obtain ⟨_, _, _, _, ra, ⟨_, _, rfl, _⟩, _⟩ := h; rw [ra.len]; rfl) (fun cdv Γ below s H vs Q E hg hr h => ?_)
  obtain ⟨B, as, o, e, ra, ⟨f, v, rfl, hz, rfl⟩, ret, exc⟩ := h
  rcases ra with _ | ⟨r1, _ | ⟨r2, _ | _⟩⟩
  have hu := hr.units
  obtain ⟨tk, hc_MOST_FACTS⟩ := T.k_MOST_FACTS
  refine ⟨_, (pss_cons (ps_expr (pe_go (okG_need_frame T) hg (hr.mono (by decide)) rfl T.d_need_frame.at_ T.d_need_frame.F.kp (bn_need_frame T) (passes_call (takes_of rfl rfl rfl rfl) (fun _ _ _ _ h => h)) (pa_cons (pv 0) pa_nil))) (pss_one (ps_ret (pe_and (pe_cmpR op_isT (pe_typeX rfl T.n_type (pv 1)) (pe_bltn (v := .ty "list") rfl T.n_list (by decide +kernel) rfl) (nomark _)) (pe_and (pe_cmpR op_le (pe_callB (k_len (K := K) rfl) rfl T.n_len (by decide +kernel) (pa_cons (pv 1) pa_nil)) (pe_glob (v := .int 6) rfl hc_MOST_FACTS ⟨_, rfl⟩) (nomark _)) (pe_one (pe_callB (k_all (K := K) rfl rfl) rfl T.n_all (by decide +kernel) (pa_cons (pe_lc (own := [("item", 2)]) (g := (gName 2)) (tt := tYes) rfl sc_is_facts.nd (k_seq (K := K) rfl (pv 1)) (blkOk_by (N := ["frame", "value", "item"]) (sc := defScope s_is_facts) (by decide +kernel)) (fun _ _ _ _ _ => (pg_name (i := 2) sc_is_facts.nd rfl (by first | exact Or.inl rfl | exact Or.inr rfl))) (fun _ _ _ _ _ => pts_nil) (fun _ _ _ _ _ => (pe_go (okG_is_fact T) hg (hr.mono (by decide)) rfl T.d_is_fact.at_ T.d_is_fact.F.kp (bn_is_fact T) pass0 (pa_cons (pv 0) (pa_cons (pv 2) pa_nil))))) pa_nil)))))))), ?_⟩
  refine s_seq (s_need e (ea_cons (ev_v rfl r1) ea_nil) ⟨f, rfl, rfl⟩ (fun hb H1 u1 => ?_) (fun hb H1 e1 => exc (onFrame_no hb) H1 e1))
  obtain ⟨a, b, rfl, _⟩ := frame_of hb
  rw [onFrame_yes hb] at ret
  walk_at "u_n"
  refine s_retE (x := .bl (factsD a b v)) u1.sub ?_ rfl (fun w B2 H2 n2 rw => by cases rw; exact ret _ rfl H2 (u1.heap.trans n2.heap))
  by_cases hk : v.kind = "list"
  · cases v <;> first | (rename_i xs; exact EvR.is (ev_and (b := decide (((xs.length : Nat) : Int) ≤ 6) && xs.all (factD a b)) (ev_isTy (ev_v rfl r2)) fun _ => ev_and (ev_op (ev_cb (ea_cons (ev_v rfl r2) ea_nil) rl_lenL) ev_i rv_le) fun _ => ev_cb (ea_cons (q_lcD (l := xs) (f := fun i => .bl (factD a b i)) (ev_v rfl r2) (Items.lst _) (by have := okz_lst hz; omega) (fun _ => rfl) (fun i w B1 hm hB rv => ev_call (ea_cons (ev_v rfl (r1.mono hB)) (ea_cons (ev_v rfl rv) ea_nil)) ⟨a, b, i, rfl, rfl⟩)) ea_nil) rl_all) rfl) | exact absurd hk (by simp [Dt.kind])
  · have e1 : factsD a b v = false := by cases v <;> first | rfl | exact absurd rfl hk
    rw [e1]
    exact ev_andF (ev_isTy (ev_v rfl r2)) (decide_eq_false hk)

def plainR (ns : List Int) : List Int := ns.map fun v => v - minL ns
def g_plain_row (as ds : List Dt) : Prop := ∃ ns : List Int, as = [eI ns] ∧ ns ≠ [] ∧ ns.length < 1000 ∧ ds = (plainR ns).map .int
theorem ok_plain_row (T : Txt K mg fa fd) : FnG P w K mg base CX0 1 (fa 20) (fd 20) ["values"] (spL g_plain_row) := by
  refine fn_L T.d_plain_row.F sc_plain_row (fun ds d h => by obtain ⟨_, rfl, _⟩ := h; rfl) (fun cdv Γ below s B H vs as ds Q E hg hr e ra hd ret => ?_)
  obtain ⟨ns, rfl, hn, hl, rfl⟩ := hd
  rcases ra with _ | ⟨r1, _ | _⟩
  refine ⟨_, (pss_cons (ps_set (i := 1) sc_plain_row.nd rfl (by first | exact Or.inl rfl | exact Or.inr rfl) (pe_callB (k_min (K := K) rfl rfl) rfl T.n_min (by decide +kernel) (pa_cons (pe_lc (own := [("item", 2)]) (g := (gName 2)) (tt := tYes) rfl sc_plain_row.nd (k_seq (K := K) rfl (pv 0)) (blkOk_by (N := ["values", "least", "item", "value"]) (sc := defScope s_plain_row) (by decide +kernel)) (fun _ _ _ _ _ => (pg_name (i := 2) sc_plain_row.nd rfl (by first | exact Or.inl rfl | exact Or.inr rfl))) (fun _ _ _ _ _ => pts_nil) (fun _ _ _ _ _ => (pe_callTy c_int rfl T.n_int (by decide +kernel) (pa_cons (pv 2) pa_nil)))) pa_nil))) (pss_one (ps_ret (pe_lc (own := [("value", 3)]) (g := (gName 3)) (tt := tYes) rfl sc_plain_row.nd (k_seq (K := K) rfl (pv 0)) (blkOk_by (N := ["values", "least", "item", "value"]) (sc := defScope s_plain_row) (by decide +kernel)) (fun _ _ _ _ _ => (pg_name (i := 3) sc_plain_row.nd rfl (by first | exact Or.inl rfl | exact Or.inr rfl))) (fun _ _ _ _ _ => pts_nil) (fun _ _ _ _ _ => (pe_op op_sub (pv 3) (pv 1))))))), ?_⟩
  refine s_seq (s_asg e (d := .int (minL (ns.map fun q => q))) (ev_cb (ea_cons (q_lc1 (l := ns) (enc := Dt.int) (f := Dt.int) (by walk_at "u_ev") (Items.lst _) (by omega) (fun _ => rfl) (fun q v B1 hm hB rv => ?_)) ea_nil) (rl_min hn)) fun v1 B1 H1 n1 r1' => ?_)
  · cases rv
    walk_at "u_ev"
  rw [List.map_id'] at r1'
  cases r1'
  walk_at "u_n"
  refine s_retL n1.sub (el_lc1 (l := ns) (enc := Dt.int) (f := fun q => Dt.int (q - minL ns)) (by walk_at "u_ev") (Items.lst _) (by omega) (fun _ => rfl) (fun q v B1 hm hB rv => ?_)) ?_ (fun p us B2 H2 n2 o r2 => ret p us B2 H2 (n1.trans n2) (n1.own o) r2)
  · cases rv
    walk_at "u_ev"
  · rw [plainR, List.map_map]; rfl

/-- a tuple of two lists of one's own -/
structure Pair2 (H0 B H : Hp) (t l m : Addr) (us ws : List V) : Prop where
  t0 : H0 t = none
  tb : B t = none
  th : H t = some (.tup [.ref l, .ref m])
  ne : l ≠ m
  lo : Own H0 B H l us
  mo : Own H0 B H m ws
def spPlain : Sp := fun vs H Q _ => ∃ (B : Hp) (a b : Int) (p q : List Int), Ex B H ∧ RA B vs [eFr a b, eSet p q] ∧ SetOk a b p q ∧
  ∀ t l m B2 H2, New B H B2 H2 → Pair2 H B2 H2 t l m ((plainR p).map V.int) ((plainR q).map V.int) → Q (.ref t) H2
theorem ok_plain (T : Txt K mg fa fd) : FnG P w K mg base CX0 6 (fa 21) (fd 21) ["frame", "setting"] spPlain := by
  refine fn_S T.d_plain.F sc_plain (fun vs H Q E h => by obtain ⟨B, a, b, p, q, _, ra, _⟩ := h; rw [ra.len]; rfl) (fun cdv Γ below s H vs Q E hg hr h => ?_)
  obtain ⟨B, a, b, p, q, e, ra, hf, ret⟩ := h
  rcases ra with _ | ⟨r1, _ | ⟨r2, _ | _⟩⟩
  have hl1 : p.length < 1000 := by have := hf.1; have := hf.2.2.2.1; omega
  have hl2 : q.length < 1000 := by have := hf.2.1; have := hf.2.2.2.2.2; omega
  have hn1 : p ≠ [] := fun z => by have := hf.1; have := hf.2.2.1; rw [z] at *; simp at *; omega
  have hn2 : q ≠ [] := fun z => by have := hf.2.1; have := hf.2.2.2.2.1; rw [z] at *; simp at *; omega
  refine ⟨_, (pss_cons (ps_expr (pe_go (ok_need_setting T) hg (hr.mono (by decide)) rfl T.d_need_setting.at_ T.d_need_setting.F.kp (bn_need_setting T) pass0 (pa_cons (pv 0) (pa_cons (pv 1) pa_nil)))) (pss_cons (ps_asg (pv 1) (pg_tup rfl (pgs_cons (pg_name (i := 2) sc_plain.nd rfl (by first | exact Or.inl rfl | exact Or.inr rfl)) (pgs_cons (pg_name (i := 3) sc_plain.nd rfl (by first | exact Or.inl rfl | exact Or.inr rfl)) pgs_nil)))) (pss_one (ps_ret (pe_tup (pa_cons (pe_go (ok_plain_row T) hg (hr.mono (by decide)) rfl T.d_plain_row.at_ T.d_plain_row.F.kp (bn_plain_row T) pass0 (pa_cons (pv 2) pa_nil)) (pa_cons (pe_go (ok_plain_row T) hg (hr.mono (by decide)) rfl T.d_plain_row.at_ T.d_plain_row.F.kp (bn_plain_row T) pass0 (pa_cons (pv 3) pa_nil)) pa_nil))))))), ?_⟩
  refine s_seq (s_drop e (ev_call (by walk_at "u_ea") ⟨a, b, p, q, rfl, hf, rfl⟩) fun H1 u1 => ?_)
  walk_at "u_n"
  refine s_seq (s_asg2 u1.sub (by walk_at "u_ev") fun v w B1 H2 n1 rv rw => ?_)
  walk_at "u_n"
  refine (el_call (B := B1) (xs := [eI p]) (ds := (plainR p).map .int) (by walk_at "u_ea") ⟨p, rfl, hn1, hl1, rfl⟩) H2 n1.sub _ fun l us B2 H3 n2 lo rl => ?_
  refine (el_call (B := B2) (xs := [eI q]) (ds := (plainR q).map .int) (by walk_at "u_ea") ⟨q, rfl, hn2, hl2, rfl⟩) H3 n2.sub _ fun m ws B3 H4 n3 mo rm => ?_
  refine ⟨by show 2 ≤ sizeLine; decide, fun t ht => ?_⟩
  have e1 := rl.ints_inv
  have e2 := rm.ints_inv
  subst e1
  subst e2
  have N3 := ((u1.new.trans n1).trans n2).trans n3
  have lo3 := lo.step n3
  have hb : B3 t = none := Evl.fresh_back N3.sub ht
  have nl : t ≠ l := fun z => by rw [z, lo3.h] at ht; cases ht
  have nm : t ≠ m := fun z => by rw [z, mo.h] at ht; cases ht
  refine ret t l m B3 _ ⟨N3.ext, Evl.Ex.mut N3.sub hb, Evl.Ex.mut N3.heap (Evl.fresh_back N3.heap ht), N3.fresh⟩ ⟨Evl.fresh_back N3.heap ht, hb, upd_same, ?_, ⟨?_, ?_, ?_⟩, ⟨?_, ?_, ?_⟩⟩
  · exact fun z => by have := lo.h; rw [z] at this; have h2 := mo.h0; rw [this] at h2; cases h2
  · exact Evl.fresh_back (u1.heap.trans n1.heap) lo.h0
  · exact lo3.b
  · rw [upd_ne nl.symm]; exact lo3.h
  · exact Evl.fresh_back ((u1.heap.trans n1.heap).trans n2.heap) mo.h0
  · exact mo.b
  · rw [upd_ne nm.symm]; exact mo.h
theorem pair_data {H0 B H : Hp} {t l m : Addr} {p q : List Int} (e : Ex B H) (k : Pair2 H0 B H t l m (p.map V.int) (q.map V.int)) :
    ∃ B', Ex B B' ∧ Ex B' H ∧ R B' (.ref t) (eSet p q) ∧ (∀ a, B a = none → H0 a ≠ none → B' a = none) := by
  have ht : t ≠ l := fun z => by have h := k.th; rw [z, k.lo.h] at h; cases h
  have hm : t ≠ m := fun z => by have h := k.th; rw [z, k.mo.h] at h; cases h
  refine ⟨upd (upd (upd B t (.tup [.ref l, .ref m])) l (.lst (p.map V.int))) m (.lst (q.map V.int)), ?_, ?_, ?_, ?_⟩
  · refine (Evl.Ex.new k.tb).trans ((Evl.Ex.new ?_).trans (Evl.Ex.new ?_))
    · rw [upd_ne ht.symm]; exact k.lo.b
    · rw [upd_ne k.ne.symm, upd_ne hm.symm]; exact k.mo.b
  · intro a u h
    by_cases a1 : a = m
    · rw [a1, upd_same] at h; rw [a1, ← h]; exact k.mo.h
    · rw [upd_ne a1] at h
      by_cases a2 : a = l
      · rw [a2, upd_same] at h; rw [a2, ← h]; exact k.lo.h
      · rw [upd_ne a2] at h
        by_cases a3 : a = t
        · rw [a3, upd_same] at h; rw [a3, ← h]; exact k.th
        · rw [upd_ne a3] at h; exact e a u h
  · refine .tup (by rw [upd_ne hm, upd_ne ht, upd_same]) (.cons (.lst (by rw [upd_ne k.ne, upd_same]) (RA.ints _)) (.cons (.lst upd_same (RA.ints _)) .nil))
  · intro a h1 h2
    have a1 : a ≠ m := fun z => by rw [z] at h2; exact h2 k.mo.h0
    have a2 : a ≠ l := fun z => by rw [z] at h2; exact h2 k.lo.h0
    have a3 : a ≠ t := fun z => by rw [z] at h2; exact h2 k.t0
    rw [upd_ne a1, upd_ne a2, upd_ne a3]; exact h1
theorem pair_new {B H B2 H2 : Hp} {t l m : Addr} {p q : List Int} (n : New B H B2 H2) (k : Pair2 H B2 H2 t l m (p.map V.int) (q.map V.int)) : ∃ B', New B H B' H2 ∧ R B' (.ref t) (eSet p q) := by
  obtain ⟨B', h1, h2, h3, h4⟩ := pair_data n.sub k
  exact ⟨B', ⟨n.ext.trans h1, h2, n.heap, fun a x y => h4 a (n.fresh a x y) y⟩, h3⟩
theorem ev_plain {σ : L2.St} {B : Hp} {tl : TA} {E : XK} {a b : Int} {p q : List Int} (h : EvRA tl σ B [eFr a b, eSet p q]) (hf : SetOk a b p q) : EvR (tCall spPlain [] E tl) σ B (eSet (plainR p) (plainR q)) := fun H1 e Q k =>
  h H1 e _ fun vs B2 H2 n ra => ⟨B2, a, b, p, q, n.sub, by rw [List.append_nil]; exact ra, hf, fun t l m B3 H3 n3 pr => by
    obtain ⟨B', n', r'⟩ := pair_new n3 pr
    exact k _ B' H3 (n.trans n') r'⟩
theorem go_plain {σ : L2.St} {B H : Hp} {tl : TA} {E : XK} {a b : Int} {p q : List Int} {D : Ends} {i : Nat} (e : Ex B H) (h : EvRA tl σ B [eFr a b, eSet p q]) (hf : SetOk a b p q)
    (k : ∀ t l m B2 H2, New B H B2 H2 → Pair2 H B2 H2 t l m ((plainR p).map V.int) ((plainR q).map V.int) → D.nx (σ.set i (some (.ref t))) H2) : tAsg (tCall spPlain [] E tl) (gName i) D σ H :=
  h H e _ fun vs B2 H2 n ra => ⟨B2, a, b, p, q, n.sub, by rw [List.append_nil]; exact ra, hf, fun t l m B3 H3 n3 pr =>
    k t l m B3 H3 (n.trans n3) ⟨Evl.fresh_back n.heap pr.t0, pr.tb, pr.th, pr.ne, n.own pr.lo, n.own pr.mo⟩⟩
theorem ev_plainK {σ : L2.St} {B : Hp} {tl tk : TA} {E : XK} {gV : List V → List V → List V} {gD : List Dt → List Dt → List Dt} {xs ys : List Dt} {a b : Int} {p q : List Int} (h : EvRA tl σ B xs) (hk : EvRA tk σ B ys) (rel : ∀ B vs ws as bs, RA B vs as → RA B ws bs → RA B (gV vs ws) (gD as bs))
    (hg : gD xs ys = [eFr a b, eSet p q]) (hf : SetOk a b p q) : EvR (tCallK spPlain gV E tl tk) σ B (eSet (plainR p) (plainR q)) := fun H1 e Q k =>
  h H1 e _ fun vs B2 H2 n ra => (hk.mono n.ext) H2 n.sub _ fun ws B3 H3 n2 rb => ⟨B3, a, b, p, q, n2.sub, by rw [← hg]; exact rel B3 vs ws xs ys (ra.mono n2.ext) rb, hf, fun t l m B4 H4 n3 pr => by
    obtain ⟨B', n', r'⟩ := pair_new n3 pr
    exact k _ B' H4 ((n.trans n2).trans n') r'⟩

def cellAt (ns : List Int) (k : Int) : Int := if k < ns.length then ns.getD k.toNat 0 else 0
def spCellA (K : PySem.W.Frag) : Sp := fun vs H Q _ => ∃ (a : Addr) (ns : List Int) (k : Int), vs = [.ref a, .int k] ∧ SqL K H a (ns.map V.int) ∧ 0 ≤ k ∧ ∀ H2, Ex H H2 → Q (.int (cellAt ns k)) H2
theorem ok__law_cell (T : Txt K mg fa fd) : FnG P w K mg base CX0 1 (fa 23) (fd 23) ["script", "k"] (spCellA K) := by
  refine fn_S T.d__law_cell.F sc__law_cell (fun vs H Q E h => by obtain ⟨_, _, _, rfl, _⟩ := h; rfl) (fun cdv Γ below s H vs Q E hg hr h => ?_)
  obtain ⟨a, ns, k, rfl, hs, hk, ret⟩ := h
  refine ⟨_, (pss_cons (ps_if (pt_cmpR op_lt (pv 1) (pe_callB (k_len (K := K) rfl) rfl T.n_len (by decide +kernel) (pa_cons (pv 0) pa_nil)) (nomark _)) (pss_one (ps_ret (pe_ix (k_ix (K := K) rfl) (pv 0) (pv 1) (fun _ _ => rfl)))) pss_nil) (pss_one (ps_ret pe_int))), ?_⟩
  refine ⟨_, rfl, _, rfl, a, _, rfl, .inl hs, _, _, rfl, rfl, _, rfl, ?_⟩
  by_cases hc : k < ns.length
  · have e1 : decide (k < ((ns.map V.int).length : Nat)) = true := decide_eq_true (by rw [List.length_map]; exact hc)
    rw [e1]
    refine ⟨_, rfl, _, rfl, .inl ⟨a, _, k, .int (cellAt ns k), rfl, rfl, hs, ?_, ret H (Evl.Ex.refl H)⟩⟩
    unfold atI ixN
    rw [List.length_map]
    have e2 : k.toNat < ns.length := by omega
    simp only [cellAt, if_pos hc]
    first
      | (simp [hk, hc, e2]; done)
      | (simp [hk, hc, e2, List.getElem?_eq_getElem, List.getD]; done)
      | (split <;> simp_all [List.getElem?_eq_getElem, List.getD] <;> omega)
  · have e1 : decide (k < ((ns.map V.int).length : Nat)) = false := decide_eq_false (by rw [List.length_map]; exact hc)
    rw [e1]
    have e3 : cellAt ns k = 0 := if_neg hc
    rw [e3] at ret
    exact ret H (Evl.Ex.refl H)
theorem ev_cell {σ : L2.St} {B : Hp} {tk : TE} {a : Addr} {ns : List Int} {k : Int} {n : Nat} {E : XK} (h0 : σ[n]? = some (some (.ref a))) (hs : SqL K B a (ns.map V.int)) (hk : EvR tk σ B (.int k)) (h : 0 ≤ k) :
    EvR (tCall (spCellA K) [] E (tCons (tVar n) (tCons tk tNil))) σ B (.int (cellAt ns k)) := fun H1 e Q q =>
  ⟨_, h0, hk H1 e _ fun v B2 H2 nw rv => by
    cases rv
    exact ⟨a, ns, k, rfl, Evl.ex_l (nw.ext.trans nw.sub) hs, h, fun H3 e3 => q _ B2 H3 (nw.trans (New.grow (nw.sub.trans e3) e3 nw.sub)) (.int _)⟩⟩
theorem ev_lenS {σ : L2.St} {B : Hp} {a : Addr} {ns : List Int} {n : Nat} (h0 : σ[n]? = some (some (.ref a))) (hs : SqL K B a (ns.map V.int)) :
    EvR (tCB (rLenS K) (tCons (tVar n) tNil)) σ B (.int (ns.length : Int)) := fun H1 e Q q =>
  ⟨_, h0, a, _, rfl, .inl (Evl.ex_l e hs), by rw [List.length_map]; exact q _ B H1 (New.refl e) (.int _)⟩

/-! ### drawing -/
def draw (c k l : Int) : Int :=
  if 10 ^ 18 ≤ c ∧ 0 < c / 2 ^ (14 * k).toNat then c / 2 ^ (14 * k).toNat % 16384 % l else
  let seed := (c * 48271 + 7919 * k * k + 30011) % 1000000007
  let first := (seed * seed + 60493 * k) % 2147483629
  let second := (first * first + seed) % 2147483587
  let third := (second * second + first) % 2147483563
  third / 64 % l
theorem draw_lt {c k l : Int} (h : 0 < l) : 0 ≤ draw c k l ∧ draw c k l < l := by
  unfold draw
  split
  · exact ⟨Int.emod_nonneg _ (by omega), Int.emod_lt_of_pos _ h⟩
  · exact ⟨Int.emod_nonneg _ (by omega), Int.emod_lt_of_pos _ h⟩
def g__law_draw (ds : List Dt) (d : Dt) : Prop := ∃ c k l : Int, ds = [.int c, .int k, .int l] ∧ 0 ≤ k ∧ k < 1000 ∧ 0 < l ∧ d = .int (draw c k l)
theorem ok__law_draw (T : Txt K mg fa fd) : FnG P w K mg base CX0 1 (fa 24) (fd 24) ["cell", "k", "limit"] (spD g__law_draw) := by
  refine fn_D T.d__law_draw.F sc__law_draw (fun ds d h => by obtain ⟨c, k, l, rfl, _⟩ := h; rfl) (fun cdv Γ below s B H vs ds d Q E hg hr e ra hd ret => ?_)
  obtain ⟨c, k, l, rfl, hk, hk2, hl, rfl⟩ := hd
  rcases ra with _ | ⟨r1, _ | ⟨r2, _ | ⟨r3, _ | _⟩⟩⟩
  cases r1; cases r2; cases r3
  have hu := hr.units
  refine ⟨_, (pss_cons (ps_if (PW.pt (pw_and (pt_cmpR op_ge (pv 0) (pe_op op_pow pe_int pe_int) (nomark _)) (pw_and1 (pt_cmpR op_gt (pe_op op_shr (pv 0) (pe_op op_mul pe_int (pv 1))) pe_int (nomark _))))) (pss_one (ps_ret (pe_op op_mod (pe_op op_mod (pe_callTy c_int rfl T.n_int (by decide +kernel) (pa_cons (pe_op op_shr (pv 0) (pe_op op_mul pe_int (pv 1))) pa_nil)) pe_int) (pv 2)))) pss_nil) (pss_cons (ps_set (i := 3) sc__law_draw.nd rfl (by first | exact Or.inl rfl | exact Or.inr rfl) (pe_op op_mod (pe_callTy c_int rfl T.n_int (by decide +kernel) (pa_cons (pe_op op_addA (pe_op op_addA (pe_op op_mul (pv 0) pe_int) (pe_op op_mul (pe_op op_mul pe_int (pv 1)) (pv 1))) pe_int) pa_nil)) pe_int)) (pss_cons (ps_set (i := 4) sc__law_draw.nd rfl (by first | exact Or.inl rfl | exact Or.inr rfl) (pe_op op_mod (pe_callTy c_int rfl T.n_int (by decide +kernel) (pa_cons (pe_op op_addA (pe_op op_mul (pv 3) (pv 3)) (pe_op op_mul pe_int (pv 1))) pa_nil)) pe_int)) (pss_cons (ps_set (i := 5) sc__law_draw.nd rfl (by first | exact Or.inl rfl | exact Or.inr rfl) (pe_op op_mod (pe_callTy c_int rfl T.n_int (by decide +kernel) (pa_cons (pe_op op_addA (pe_op op_mul (pv 4) (pv 4)) (pv 3)) pa_nil)) pe_int)) (pss_cons (ps_set (i := 6) sc__law_draw.nd rfl (by first | exact Or.inl rfl | exact Or.inr rfl) (pe_op op_mod (pe_callTy c_int rfl T.n_int (by decide +kernel) (pa_cons (pe_op op_addA (pe_op op_mul (pv 5) (pv 5)) (pv 4)) pa_nil)) pe_int)) (pss_one (ps_ret (pe_op op_mod (pe_callTy c_int rfl T.n_int (by decide +kernel) (pa_cons (pe_op op_fdiv (pv 6) pe_int) pa_nil)) (pv 2))))))))), ?_⟩
  refine s_seq (s_if e (by walk_at "u_ec") (fun hb H1 u1 => ?_) (fun hb H1 u1 => ?_))
  · refine s_retE u1.sub (x := .int (c / 2 ^ (14 * k).toNat % 16384 % l)) (by walk_at "u_ev") ?_ (fun v B1 H2 n1 rv => ret v B1 H2 (u1.new.trans n1) rv)
    have h2 : 10 ^ 18 ≤ c ∧ 0 < c / 2 ^ (14 * k).toNat := by simpa using hb
    rw [draw, if_pos h2]
  · have h2 : ¬ (10 ^ 18 ≤ c ∧ 0 < c / 2 ^ (14 * k).toNat) := by simpa using hb
    walk_at "u_n"
    refine s_seq (s_asg u1.sub (by walk_at "u_ev") fun v1 B1 H2 n1 r1 => ?_)
    cases r1
    walk_at "u_n"
    refine s_seq (s_asg n1.sub (by walk_at "u_ev") fun v2 B2 H3 n2 r2 => ?_)
    cases r2
    walk_at "u_n"
    refine s_seq (s_asg n2.sub (by walk_at "u_ev") fun v3 B3 H4 n3 r3 => ?_)
    cases r3
    walk_at "u_n"
    refine s_seq (s_asg n3.sub (by walk_at "u_ev") fun v4 B4 H5 n4 r4 => ?_)
    cases r4
    walk_at "u_n"
    refine s_retE n4.sub (by walk_at "u_ev") ?_ (fun v B5 H6 n5 rv => ret v B5 H6 (((((u1.new.trans n1).trans n2).trans n3).trans n4).trans n5) rv)
    rw [draw, if_neg h2]

def amt (c k : Int) (found : List Int) (j : Int) : Int :=
  let mode := draw c (k + 4 * j) 7
  let a0 := draw c (k + 4 * j + 1) 25 - 12
  let a1 := if mode = 1 then a0 * 40 else a0
  let a2 := if mode = 2 then a1 * 10 ^ 29 + draw c (k + 4 * j + 2) 50 else a1
  let a3 := if mode = 3 ∧ found ≠ [] then found.getD (draw c (k + 4 * j + 2) found.length).toNat 0 else a2
  let a4 := if mode = 4 then (10 ^ 31 - 13 + (if a3 < 0 then -a3 else a3)) * (if 0 < a3 then 1 else -1) else a3
  if mode = 5 then a4 * ([10 ^ 3, 10 ^ 6, 10 ^ 12, 10 ^ 20] : List Int).getD (draw c (k + 4 * j + 3) 4).toNat 0 else a4
def vals (c k : Int) : Nat → List Int
  | 0 => []
  | n + 1 => vals c k n ++ [amt c k (vals c k n) n]
theorem vals_len (c k : Int) : ∀ n, (vals c k n).length = n
  | 0 => rfl
  | n + 1 => by rw [vals, List.length_append, vals_len c k n]; rfl
theorem amt_lt {c k : Int} {found : List Int} {j : Int} (h : ∀ x ∈ found, x.natAbs < 10 ^ 33) : (amt c k found j).natAbs < 10 ^ 33 := by
  have d0 := draw_lt (c := c) (k := k + 4 * j + 1) (l := 25) (by omega)
  have d1 := draw_lt (c := c) (k := k + 4 * j + 2) (l := 50) (by omega)
  have d2 := draw_lt (c := c) (k := k + 4 * j + 3) (l := 4) (by omega)
  unfold amt
  generalize draw c (k + 4 * j) 7 = mode
  generalize draw c (k + 4 * j + 1) 25 = u at *
  generalize draw c (k + 4 * j + 2) 50 = v at *
  generalize draw c (k + 4 * j + 3) 4 = x at *
  have hg : ∀ n, (found.getD n 0).natAbs < 10 ^ 33 := fun n => by
    rw [List.getD_eq_getElem?_getD]
    cases e : found[n]? with
    | none => decide
    | some y => exact h y (List.mem_of_getElem? e)
  have hp : ∃ m : Int, ([10 ^ 3, 10 ^ 6, 10 ^ 12, 10 ^ 20] : List Int).getD x.toNat 0 = m ∧ 0 ≤ m ∧ m ≤ 10 ^ 20 := by
    have : x = 0 ∨ x = 1 ∨ x = 2 ∨ x = 3 := by omega
    rcases this with e | e | e | e <;> rw [e] <;> exact ⟨_, rfl, by decide, by decide⟩
  obtain ⟨m, hm, m0, m1⟩ := hp
  rw [hm]
  have hq := hg (draw c (k + 4 * j + 2) found.length).toNat
  generalize (found.getD (draw c (k + 4 * j + 2) found.length).toNat 0) = g at *
  dsimp only
  by_cases e5 : mode = 5
  · have p1 : -12 * 10 ^ 20 ≤ (u - 12) * m := by
      have a1 : -12 ≤ u - 12 := by omega
      have := Int.mul_le_mul_of_nonneg_right a1 m0
      omega
    have p2 : (u - 12) * m ≤ 12 * 10 ^ 20 := by
      have a1 : u - 12 ≤ 12 := by omega
      have := Int.mul_le_mul_of_nonneg_right a1 m0
      omega
    have n1 : ¬ mode = 1 := by omega
    have n2 : ¬ mode = 2 := by omega
    have n3 : ¬ (mode = 3 ∧ found ≠ []) := by omega
    have n4 : ¬ mode = 4 := by omega
    rw [if_pos e5, if_neg n4, if_neg n3, if_neg n2, if_neg n1]
    omega
  · rw [if_neg e5]
    by_cases e4 : mode = 4
    · have n1 : ¬ mode = 1 := by omega
      have n2 : ¬ mode = 2 := by omega
      have n3 : ¬ (mode = 3 ∧ found ≠ []) := by omega
      rw [if_pos e4, if_neg n3, if_neg n2, if_neg n1]
      split <;> split <;> omega
    · rw [if_neg e4]
      by_cases e3 : mode = 3 ∧ found ≠ []
      · rw [if_pos e3]; exact hq
      · rw [if_neg e3]
        split <;> split <;> omega
theorem vals_lt (c k : Int) : ∀ n, ∀ x ∈ vals c k n, x.natAbs < 10 ^ 33
  | 0 => fun x h => by cases h
  | n + 1 => fun x h => by
    rw [vals] at h
    rcases List.mem_append.mp h with h | h
    · exact vals_lt c k n x h
    · rw [List.mem_singleton.mp h]; exact amt_lt (vals_lt c k n)
def g__law_values (as ds : List Dt) : Prop := ∃ c k n : Int, as = [.int c, .int k, .int n] ∧ 0 ≤ k ∧ k < 500 ∧ 0 ≤ n ∧ n ≤ 100 ∧ ds = (vals c k n.toNat).map .int
theorem ok__law_values (T : Txt K mg fa fd) : FnG P w K mg base CX0 2 (fa 25) (fd 25) ["cell", "k", "many"] (spL g__law_values) := by
  refine fn_L T.d__law_values.F sc__law_values (fun ds d h => by obtain ⟨_, _, _, rfl, _⟩ := h; rfl) (fun cdv Γ below s B H vs as ds Q E hg hr e ra hd ret => ?_)
  obtain ⟨c, k, n, rfl, hk, hk2, hn, hn2, rfl⟩ := hd
  rcases ra with _ | ⟨r1, _ | ⟨r2, _ | ⟨r3, _ | _⟩⟩⟩
  cases r1; cases r2; cases r3
  have hu := hr.units
  refine ⟨_, (pss_cons (ps_set (i := 3) sc__law_values.nd rfl (by first | exact Or.inl rfl | exact Or.inr rfl) (pe_lst pa_nil)) (pss_cons (ps_for PassesOwn.never rfl (pi_range1 rfl T.n_range (pa_cons (pv 2) pa_nil)) (pg_name (i := 4) sc__law_values.nd rfl (by first | exact Or.inl rfl | exact Or.inr rfl)) (pss_cons (ps_set (i := 5) sc__law_values.nd rfl (by first | exact Or.inl rfl | exact Or.inr rfl) (pe_go (ok__law_draw T) hg (hr.mono (by decide)) rfl T.d__law_draw.at_ T.d__law_draw.F.kp (bn__law_draw T) pass0 (pa_cons (pv 0) (pa_cons (pe_op op_addA (pv 1) (pe_op op_mul pe_int (pv 4))) (pa_cons pe_int pa_nil))))) (pss_cons (ps_set (i := 6) sc__law_values.nd rfl (by first | exact Or.inl rfl | exact Or.inr rfl) (pe_op op_sub (pe_go (ok__law_draw T) hg (hr.mono (by decide)) rfl T.d__law_draw.at_ T.d__law_draw.F.kp (bn__law_draw T) pass0 (pa_cons (pv 0) (pa_cons (pe_op op_addA (pe_op op_addA (pv 1) (pe_op op_mul pe_int (pv 4))) pe_int) (pa_cons pe_int pa_nil)))) pe_int)) (pss_cons (ps_if (pt_cmpR (k_eq (K := K) rfl hu) (pv 5) pe_int (nomark _)) (pss_one (ps_set (i := 6) sc__law_values.nd rfl (by first | exact Or.inl rfl | exact Or.inr rfl) (pe_op op_mul (pv 6) pe_int))) pss_nil) (pss_cons (ps_if (pt_cmpR (k_eq (K := K) rfl hu) (pv 5) pe_int (nomark _)) (pss_one (ps_set (i := 6) sc__law_values.nd rfl (by first | exact Or.inl rfl | exact Or.inr rfl) (pe_op op_addA (pe_op op_mul (pv 6) (pe_op op_pow pe_int pe_int)) (pe_go (ok__law_draw T) hg (hr.mono (by decide)) rfl T.d__law_draw.at_ T.d__law_draw.F.kp (bn__law_draw T) pass0 (pa_cons (pv 0) (pa_cons (pe_op op_addA (pe_op op_addA (pv 1) (pe_op op_mul pe_int (pv 4))) pe_int) (pa_cons pe_int pa_nil))))))) pss_nil) (pss_cons (ps_if (PW.pt (pw_and (pt_cmpR (k_eq (K := K) rfl hu) (pv 5) pe_int (nomark _)) (pw_and1 (pt_cmpR (k_ne (K := K) rfl hu) (pv 3) (pe_lst pa_nil) (nomark _))))) (pss_one (ps_set (i := 6) sc__law_values.nd rfl (by first | exact Or.inl rfl | exact Or.inr rfl) (pe_ix (k_ix (K := K) rfl) (pv 3) (pe_go (ok__law_draw T) hg (hr.mono (by decide)) rfl T.d__law_draw.at_ T.d__law_draw.F.kp (bn__law_draw T) pass0 (pa_cons (pv 0) (pa_cons (pe_op op_addA (pe_op op_addA (pv 1) (pe_op op_mul pe_int (pv 4))) pe_int) (pa_cons (pe_callB (k_len (K := K) rfl) rfl T.n_len (by decide +kernel) (pa_cons (pv 3) pa_nil)) pa_nil)))) (fun _ _ => rfl)))) pss_nil) (pss_cons (ps_if (pt_cmpR (k_eq (K := K) rfl hu) (pv 5) pe_int (nomark _)) (pss_one (ps_set (i := 6) sc__law_values.nd rfl (by first | exact Or.inl rfl | exact Or.inr rfl) (pe_op op_mul (pe_op op_addA (pe_op op_sub (pe_op op_pow pe_int pe_int) pe_int) (pe_callB c_abs rfl T.n_abs (by decide +kernel) (pa_cons (pv 6) pa_nil))) (pe_ifExp (pt_cmpR op_gt (pv 6) pe_int (nomark _)) pe_int (pe_un un_neg pe_int))))) pss_nil) (pss_cons (ps_if (pt_cmpR (k_eq (K := K) rfl hu) (pv 5) pe_int (nomark _)) (pss_one (ps_set (i := 6) sc__law_values.nd rfl (by first | exact Or.inl rfl | exact Or.inr rfl) (pe_op op_mul (pv 6) (pe_ix (k_ix (K := K) rfl) (pe_lst (pa_cons (pe_op op_pow pe_int pe_int) (pa_cons (pe_op op_pow pe_int pe_int) (pa_cons (pe_op op_pow pe_int pe_int) (pa_cons (pe_op op_pow pe_int pe_int) pa_nil))))) (pe_go (ok__law_draw T) hg (hr.mono (by decide)) rfl T.d__law_draw.at_ T.d__law_draw.F.kp (bn__law_draw T) pass0 (pa_cons (pv 0) (pa_cons (pe_op op_addA (pe_op op_addA (pv 1) (pe_op op_mul pe_int (pv 4))) pe_int) (pa_cons pe_int pa_nil)))) (fun _ _ => rfl))))) pss_nil) (pss_one (ps_expr (pe_bm PySem.F.plainAttrs_list PySem.F.slot_list_append PySem.F.type_list_append mt_append (pv 3) (pa_cons (pv 6) pa_nil)))))))))))) (pss_one (ps_ret (pv 3))))), ?_⟩
  refine s_seq (s_new e fun p H1 hp hb eH u1 => ?_)
  walk_at "u_n"
  have o1 : Own H B H1 p [] := ⟨hp, hb, by rw [eH]; exact upd_same⟩
  refine s_seq (s_forR u1.sub (by walk_at "u_ea") ⟨hn, by omega⟩ (fun i σ' H' => ∃ v4 v5 v6, σ' = [some (.int c), some (.int k), some (.int n), some (.ref p), v4, v5, v6] ∧ Ex B H' ∧ Ex H H' ∧ Own H B H' p ((vals c k i).map V.int)) ?_ ?_ ?_)
  · intro H2 u2
    exact ⟨none, none, none, rfl, u2.sub, u1.heap.trans u2.heap, o1.up u2.heap⟩
  · rintro i σ' H' hi ⟨v4, v5, v6, rfl, eB, eH0, o⟩
    have hi2 : (i : Int) < 100 := by omega
    have dr : ∀ a l : Int, 0 ≤ a → a < 1000 → 0 < l → g__law_draw [.int c, .int a, .int l] (.int (draw c a l)) := fun a l h1 h2 h3 => ⟨c, a, l, rfl, h1, h2, h3, rfl⟩
    walk_at "u_n"
    refine s_seq (s_asg (d := .int (draw c (k + 4 * i) 7)) eB (ev_call (ds := [.int c, .int (k + 4 * i), .int 7]) (by walk_at "u_ea") (dr _ _ (by omega) (by omega) (by omega))) fun w1 B1 H1 n1 r1 => ?_)
    cases r1
    walk_at "u_n"
    refine s_seq (s_asg (d := .int (draw c (k + 4 * i + 1) 25 - 12)) n1.sub (ev_op (ev_call (ds := [.int c, .int (k + 4 * i + 1), .int 25]) (by walk_at "u_ea") (dr _ _ (by omega) (by omega) (by omega))) ev_i rv_sub) fun w2 B2 H2 n2 r2 => ?_)
    cases r2
    have d0 := draw_lt (c := c) (k := k + 4 * i + 1) (l := 25) (by omega)
    have d1 := draw_lt (c := c) (k := k + 4 * i + 2) (l := 50) (by omega)
    have d2 := draw_lt (c := c) (k := k + 4 * i + 3) (l := 4) (by omega)
    have N2 := n1.trans n2
    have oo := o.step N2
    walk_at "u_n"
    generalize ea0 : draw c (k + 4 * i + 1) 25 - 12 = a0 at *
    generalize em : draw c (k + 4 * i) 7 = mode at *
    refine s_seq (s_ifI (i := a0 * 40) (k := a0) n2.sub (by walk_at "u_ec") (fun _ => by walk_at "u_ev") rfl fun H3 u3 => ?_)
    walk_at "u_n"
    generalize ea1 : (if decide (mode = 1) = true then a0 * 40 else a0) = a1
    have hb1 : -600 ≤ a1 ∧ a1 ≤ 600 := by rw [← ea1]; split <;> omega
    refine s_seq (s_ifI (i := a1 * 10 ^ 29 + draw c (k + 4 * i + 2) 50) (k := a1) u3.sub (by walk_at "u_ec") (fun _ => EvR.is (ev_op (ev_op (ev_v rfl (.int _)) (ev_op ev_i ev_i (rv_pow ⟨by decide, by decide, by decide⟩)) (rv_mul (.inl (by omega)))) (ev_call (ds := [.int c, .int (k + 4 * i + 2), .int 50]) (by walk_at "u_ea") (dr _ _ (by omega) (by omega) (by omega))) (rv_inl rv_add)) rfl) rfl fun H4 u4 => ?_)
    walk_at "u_n"
    generalize ea2 : (if decide (mode = 2) = true then a1 * 10 ^ 29 + draw c (k + 4 * i + 2) 50 else a1) = a2
    have o4 := (oo.up u3.heap).up u4.heap
    have e4 := o4.ex u4.sub
    have rf : R (upd B2 p (.lst ((vals c k i).map V.int))) (.ref p) (eI (vals c k i)) := o4.data (RA.ints _)
    have eu : Ex B2 (upd B2 p (.lst ((vals c k i).map V.int))) := Evl.Ex.new o4.b
    have hlen := vals_len c k i
    have d3 := fun h => draw_lt (c := c) (k := k + 4 * i + 2) (l := ((vals c k i).length : Int)) h
    have cond : EvC (tAnd (tTest (tOp (rOr rEq (rEqD K)) (tVar 5) (tC (.int 3)))) (tTest (tOp (rOr rNe (rNeD K)) (tVar 3) (tLst tNil)))) ([some (.int c), some (.int k), some (.int n), some (.ref p), some (.int i), some (.int mode), some (.int a2)]) (upd B2 p (.lst ((vals c k i).map V.int))) (decide (mode = 3 ∧ vals c k i ≠ [])) := by
      refine EvC.is (ec_and (by walk_at "u_ec") fun _ => ec_t (ev_op (ev_v rfl rf) (ev_lst ea_nil (by decide)) (rv_inr (rv_neD shaped_eI (shaped_eI (ns := [])))))) ?_
      rw [eqv_nil (f := vals c k i)]
      simp [Bool.decide_and]
    refine s_seq (s_ifI (i := (vals c k i).getD (draw c (k + 4 * i + 2) (vals c k i).length).toNat 0) (k := a2) e4 cond (fun hc => ?_) rfl fun H5 u5 => ?_)
    · have hne : vals c k i ≠ [] := (of_decide_eq_true hc).2
      have hpos : 0 < ((vals c k i).length : Int) := by have := List.length_pos_iff.mpr hne; omega
      have d3 := d3 hpos
      refine ev_op (ev_v rfl rf) (ev_call (ds := [.int c, .int (k + 4 * i + 2), .int ((vals c k i).length : Int)]) ?_ (dr _ _ (by omega) (by omega) hpos)) (rv_ixL (atI_ints d3.1 d3.2))
      refine ea_cons (by walk_at "u_ev") (ea_cons (by walk_at "u_ev") (ea_cons ?_ ea_nil))
      have := ev_cb (ea_cons (ev_v (σ := [some (.int c), some (.int k), some (.int n), some (.ref p), some (.int i), some (.int mode), some (.int a2)]) (n := 3) rfl rf) ea_nil) (rl_lenL (K := K))
      rw [List.length_map] at this
      exact this
    walk_at "u_n"
    generalize ea3 : (if decide (mode = 3 ∧ vals c k i ≠ []) = true then (vals c k i).getD (draw c (k + 4 * i + 2) (vals c k i).length).toNat 0 else a2) = a3
    have e5 : Ex B2 H5 := eu.trans u5.sub
    refine s_seq (s_ifI (i := (10 ^ 31 - 13 + (if a3 < 0 then -a3 else a3)) * (if decide (0 < a3) = true then 1 else -1)) (k := a3) e5 (by walk_at "u_ec") (fun _ => EvR.is (ev_op (ev_op (ev_op (ev_op ev_i ev_i (rv_pow ⟨by decide, by decide, by decide⟩)) ev_i rv_sub) (by walk_at "u_ev") (rv_inl rv_add)) (ev_ifI (by walk_at "u_ec") ev_i (ev_un ev_i ru_neg)) (rv_mul (.inr (by split <;> decide)))) rfl) rfl fun H6 u6 => ?_)
    walk_at "u_n"
    generalize ea4 : (if decide (mode = 4) = true then (10 ^ 31 - 13 + (if a3 < 0 then -a3 else a3)) * (if decide (0 < a3) = true then 1 else -1) else a3) = a4
    have hb4 : mode = 5 → -600 ≤ a4 ∧ a4 ≤ 600 := fun hm => by
      have q4 : a4 = a3 := by rw [← ea4, if_neg (by simp; omega)]
      have q3 : a3 = a2 := by rw [← ea3, if_neg (by simp; omega)]
      have q2 : a2 = a1 := by rw [← ea2, if_neg (by simp; omega)]
      omega
    have ds4 : ∃ x : Int, draw c (k + 4 * i + 3) 4 = x := ⟨_, rfl⟩
    refine s_seq (s_ifI (i := a4 * ([10 ^ 3, 10 ^ 6, 10 ^ 12, 10 ^ 20] : List Int).getD (draw c (k + 4 * i + 3) 4).toNat 0) (k := a4) u6.sub (by walk_at "u_ec") (fun hm => ?_) rfl fun H7 u7 => ?_)
    · have hm : mode = 5 := by simpa using hm
      have hb := hb4 hm
      refine EvR.is (ev_op (by walk_at "u_ev") (ev_op (x := .lst ([10 ^ 3, 10 ^ 6, 10 ^ 12, 10 ^ 20].map Dt.int)) ?_ (ev_call (ds := [.int c, .int (k + 4 * i + 3), .int 4]) (by walk_at "u_ea") (dr _ _ (by omega) (by omega) (by omega))) (rv_ixL (atI_ints d2.1 d2.2))) (rv_mul (.inl (by omega)))) rfl
      exact EvR.is (ev_lst (ea_cons (ev_op ev_i ev_i (rv_pow ⟨by decide, by decide, by decide⟩)) (ea_cons (ev_op ev_i ev_i (rv_pow ⟨by decide, by decide, by decide⟩)) (ea_cons (ev_op ev_i ev_i (rv_pow ⟨by decide, by decide, by decide⟩)) (ea_cons (ev_op ev_i ev_i (rv_pow ⟨by decide, by decide, by decide⟩)) ea_nil)))) (by decide)) rfl
    walk_at "u_n"
    generalize ea5 : (if decide (mode = 5) = true then a4 * ([10 ^ 3, 10 ^ 6, 10 ^ 12, 10 ^ 20] : List Int).getD (draw c (k + 4 * i + 3) 4).toNat 0 else a4) = a5
    have o7 := ((o4.up u5.heap).up u6.heap).up u7.heap
    refine s_app (u7.sub) o7 rfl (by walk_at "u_ev") (by rw [List.length_map, hlen]; omega) fun v B8 H8 n8 o8 r8 => ?_
    cases r8
    have key : amt c k (vals c k i) i = a5 := by
      unfold amt
      rw [em, ea0]
      dsimp only
      simp only [decide_eq_true_eq] at ea1 ea2 ea3 ea4 ea5
      rw [ea1, ea2, ea3, ea4, ea5]
    have HH : Ex H' H8 := N2.heap.trans (u3.heap.trans (u4.heap.trans (u5.heap.trans (u6.heap.trans (u7.heap.trans n8.heap)))))
    have B8' : Ex B H8 := N2.ext.trans (n8.ext.trans n8.sub)
    refine ⟨_, _, _, rfl, Evl.Ex.mut B8' o.b, Evl.Ex.mut (eH0.trans HH) o.h0, ?_⟩
    have of : Own H B H8 p ((vals c k i).map V.int) := ⟨o.h0, o.b, o8.h⟩
    have g := of.put (ys := (vals c k i).map V.int ++ [.int a5])
    rw [vals, List.map_append, key]
    exact g
  · rintro σ' H' ⟨v4, v5, v6, rfl, eB, eH0, o⟩
    walk_at "u_n"
    exact ⟨_, rfl, ret p _ B H' ⟨Evl.Ex.refl _, eB, eH0, fun _ h _ => h⟩ o (RA.ints _)⟩

def fr0 (c : Int) : Int := 1 + draw c 0 3
def fr1 (c : Int) : Int := 1 + draw c 1 3
theorem frOk (c : Int) : 1 ≤ fr0 c ∧ fr0 c ≤ 3 ∧ 1 ≤ fr1 c ∧ fr1 c ≤ 3 := by
  have h1 := draw_lt (c := c) (k := 0) (l := 3) (by omega)
  have h2 := draw_lt (c := c) (k := 1) (l := 3) (by omega)
  unfold fr0 fr1
  omega
def g__law_frame (ds : List Dt) (d : Dt) : Prop := ∃ c : Int, ds = [.int c] ∧ d = eFr (fr0 c) (fr1 c)
theorem ok__law_frame (T : Txt K mg fa fd) : FnG P w K mg base CX0 2 (fa 26) (fd 26) ["cell"] (spD g__law_frame) := by
  refine fn_D T.d__law_frame.F sc__law_frame (fun ds d h => by obtain ⟨_, rfl, _⟩ := h; rfl) (fun cdv Γ below s B H vs ds d Q E hg hr e ra hd ret => ?_)
  obtain ⟨c, rfl, rfl⟩ := hd
  rcases ra with _ | ⟨r1, _ | _⟩
  cases r1
  refine ⟨_, (pss_one (ps_ret (pe_tup (pa_cons (pe_op op_addA pe_int (pe_go (ok__law_draw T) hg (hr.mono (by decide)) rfl T.d__law_draw.at_ T.d__law_draw.F.kp (bn__law_draw T) pass0 (pa_cons (pv 0) (pa_cons pe_int (pa_cons pe_int pa_nil))))) (pa_cons (pe_op op_addA pe_int (pe_go (ok__law_draw T) hg (hr.mono (by decide)) rfl T.d__law_draw.at_ T.d__law_draw.F.kp (bn__law_draw T) pass0 (pa_cons (pv 0) (pa_cons pe_int (pa_cons pe_int pa_nil))))) pa_nil))))), ?_⟩
  refine s_retE e (ev_tup (ea_cons (ev_op ev_i (ev_call (by walk_at "u_ea") ⟨c, 0, 3, rfl, by decide, by decide, by decide, rfl⟩) (rv_inl rv_add)) (ea_cons (ev_op ev_i (ev_call (by walk_at "u_ea") ⟨c, 1, 3, rfl, by decide, by decide, by decide, rfl⟩) (rv_inl rv_add)) ea_nil)) (by simp)) rfl ret

def pt0 (c : Int) : List Int := vals c 10 (fr0 c).toNat
def pt1 (c : Int) : List Int := vals c 22 (fr1 c).toNat
def g__law_setting (ds : List Dt) (d : Dt) : Prop := ∃ c : Int, ds = [.int c, eFr (fr0 c) (fr1 c)] ∧ d = eSet (pt0 c) (pt1 c)
theorem ok__law_setting (T : Txt K mg fa fd) : FnG P w K mg base CX0 3 (fa 27) (fd 27) ["cell", "plane"] (spD g__law_setting) := by
  refine fn_D T.d__law_setting.F sc__law_setting (fun ds d h => by obtain ⟨_, rfl, _⟩ := h; rfl) (fun cdv Γ below s B H vs ds d Q E hg hr e ra hd ret => ?_)
  obtain ⟨c, rfl, rfl⟩ := hd
  rcases ra with _ | ⟨r1, _ | ⟨r2, _ | _⟩⟩
  cases r1
  have hf := frOk c
  refine ⟨_, (pss_one (ps_ret (pe_tup (pa_cons (pe_go (ok__law_values T) hg (hr.mono (by decide)) rfl T.d__law_values.at_ T.d__law_values.F.kp (bn__law_values T) pass0 (pa_cons (pv 0) (pa_cons pe_int (pa_cons (pe_ix (k_ix (K := K) rfl) (pv 1) pe_int (fun _ _ => rfl)) pa_nil)))) (pa_cons (pe_go (ok__law_values T) hg (hr.mono (by decide)) rfl T.d__law_values.at_ T.d__law_values.F.kp (bn__law_values T) pass0 (pa_cons (pv 0) (pa_cons pe_int (pa_cons (pe_ix (k_ix (K := K) rfl) (pv 1) pe_int (fun _ _ => rfl)) pa_nil)))) pa_nil))))), ?_⟩
  refine s_retE e (ev_tup (ea_cons (EvL.toR (el_call (xs := [.int c, .int 10, .int (fr0 c)]) (ea_cons (by walk_at "u_ev") (ea_cons ev_i (ea_cons (ev_op (by walk_at "u_ev") ev_i (rv_ixT rfl)) ea_nil))) ⟨c, 10, fr0 c, rfl, by decide, by decide, by omega, by omega, rfl⟩))
    (ea_cons (EvL.toR (el_call (xs := [.int c, .int 22, .int (fr1 c)]) (ea_cons (by walk_at "u_ev") (ea_cons ev_i (ea_cons (ev_op (by walk_at "u_ev") ev_i (rv_ixT rfl)) ea_nil))) ⟨c, 22, fr1 c, rfl, by decide, by decide, by omega, by omega, rfl⟩)) ea_nil)) (by simp)) rfl ret

def fact (c k a b : Int) : Fa := ⟨decide (draw c k 2 = 0), draw c (k + 1) (if draw c k 2 = 0 then a else b), draw c (k + 2) (if draw c k 2 = 0 then a else b), draw c (k + 3) 13 - 6⟩
theorem fact_ok {c k a b : Int} (h : FrOk a b) : FaOk a b (fact c k a b) := by
  obtain ⟨a0, a1, b0, b1⟩ := h
  have hn : (fact c k a b).n a b = if draw c k 2 = 0 then a else b := by
    unfold Fa.n fact
    dsimp only
    simp only [decide_eq_true_eq]
  have h1 := draw_lt (c := c) (k := k + 1) (l := if draw c k 2 = 0 then a else b) (by split <;> omega)
  have h2 := draw_lt (c := c) (k := k + 2) (l := if draw c k 2 = 0 then a else b) (by split <;> omega)
  have h3 := draw_lt (c := c) (k := k + 3) (l := 13) (by omega)
  refine ⟨h1.1, by rw [hn]; exact h1.2, h2.1, by rw [hn]; exact h2.2, ?_, ?_⟩
  · show -6 ≤ draw c (k + 3) 13 - 6; omega
  · show draw c (k + 3) 13 - 6 ≤ 6; omega
def g__law_fact (ds : List Dt) (d : Dt) : Prop := ∃ c k a b : Int, ds = [.int c, .int k, eFr a b] ∧ 0 ≤ k ∧ k < 900 ∧ FrOk a b ∧ d = eFa (fact c k a b)
theorem ok__law_fact (T : Txt K mg fa fd) : FnG P w K mg base CX0 2 (fa 28) (fd 28) ["cell", "k", "plane"] (spD g__law_fact) := by
  refine fn_D T.d__law_fact.F sc__law_fact (fun ds d h => by obtain ⟨_, _, _, _, rfl, _⟩ := h; rfl) (fun cdv Γ below s B H vs ds d Q E hg hr e ra hd ret => ?_)
  obtain ⟨c, k, a, b, rfl, hk, hk2, ⟨a0, a1, b0, b1⟩, rfl⟩ := hd
  rcases ra with _ | ⟨r1, _ | ⟨r2, _ | ⟨r3, _ | _⟩⟩⟩
  cases r1; cases r2
  have dr : ∀ x l : Int, 0 ≤ x → x < 1000 → 0 < l → g__law_draw [.int c, .int x, .int l] (.int (draw c x l)) := fun x l h1 h2 h3 => ⟨c, x, l, rfl, h1, h2, h3, rfl⟩
  have d2 := draw_lt (c := c) (k := k) (l := 2) (by omega)
  have e01 : draw c k 2 = 0 ∨ draw c k 2 = 1 := by omega
  have at2 : atI [Dt.int a, Dt.int b] (draw c k 2) = some (.int (if draw c k 2 = 0 then a else b)) := by rcases e01 with z | z <;> rw [z] <;> rfl
  have at3 : atI [Dt.str "x", Dt.str "y"] (draw c k 2) = some (.str (axS (decide (draw c k 2 = 0)))) := by rcases e01 with z | z <;> rw [z] <;> rfl
  have hn : 0 < (if draw c k 2 = 0 then a else b) := by split <;> omega
  refine ⟨_, (pss_cons (ps_set (i := 3) sc__law_fact.nd rfl (by first | exact Or.inl rfl | exact Or.inr rfl) (pe_go (ok__law_draw T) hg (hr.mono (by decide)) rfl T.d__law_draw.at_ T.d__law_draw.F.kp (bn__law_draw T) pass0 (pa_cons (pv 0) (pa_cons (pv 1) (pa_cons pe_int pa_nil))))) (pss_cons (ps_par (i := 4) (j := 5) rfl sc__law_fact.nd rfl rfl (by decide) rfl rfl (pa_cons (pe_go (ok__law_draw T) hg (hr.mono (by decide)) rfl T.d__law_draw.at_ T.d__law_draw.F.kp (bn__law_draw T) pass0 (pa_cons (pv 0) (pa_cons (pe_op op_addA (pv 1) pe_int) (pa_cons (pe_ix (k_ix (K := K) rfl) (pv 2) (pv 3) (fun _ _ => rfl)) pa_nil)))) (pa_cons (pe_go (ok__law_draw T) hg (hr.mono (by decide)) rfl T.d__law_draw.at_ T.d__law_draw.F.kp (bn__law_draw T) pass0 (pa_cons (pv 0) (pa_cons (pe_op op_addA (pv 1) pe_int) (pa_cons (pe_ix (k_ix (K := K) rfl) (pv 2) (pv 3) (fun _ _ => rfl)) pa_nil)))) pa_nil)) rfl) (pss_one (ps_ret (pe_tup (pa_cons (pe_ix (k_ix (K := K) rfl) (pe_tup (pa_cons pe_str (pa_cons pe_str pa_nil))) (pv 3) (fun _ _ => rfl)) (pa_cons (pv 4) (pa_cons (pv 5) (pa_cons (pe_op op_sub (pe_go (ok__law_draw T) hg (hr.mono (by decide)) rfl T.d__law_draw.at_ T.d__law_draw.F.kp (bn__law_draw T) pass0 (pa_cons (pv 0) (pa_cons (pe_op op_addA (pv 1) pe_int) (pa_cons pe_int pa_nil)))) pe_int) pa_nil))))))))), ?_⟩
  refine s_seq (s_asg e (ev_call (by walk_at "u_ea") (dr k 2 hk (by omega) (by omega))) fun v1 B1 H1 n1 q1 => ?_)
  cases q1
  walk_at "u_n"
  refine s_seq (s_par n1.sub (ea_cons (ev_call (ea_cons (by walk_at "u_ev") (ea_cons (by walk_at "u_ev") (ea_cons (ev_op (by walk_at "u_ev") (by walk_at "u_ev") (rv_ixT at2)) ea_nil))) (dr (k + 1) _ (by omega) (by omega) hn)) (ea_cons (ev_call (ea_cons (by walk_at "u_ev") (ea_cons (by walk_at "u_ev") (ea_cons (ev_op (by walk_at "u_ev") (by walk_at "u_ev") (rv_ixT at2)) ea_nil))) (dr (k + 2) _ (by omega) (by omega) hn)) ea_nil)) fun v2 v3 B2 H2 n2 q2 q3 => ?_)
  cases q2; cases q3
  walk_at "u_n"
  refine s_retE n2.sub (ev_tup (ea_cons (ev_op (ev_tup (by walk_at "u_ea") (by simp)) (by walk_at "u_ev") (rv_ixT at3)) (ea_cons (by walk_at "u_ev") (ea_cons (by walk_at "u_ev") (ea_cons (ev_op (ev_call (by walk_at "u_ea") (dr (k + 3) 13 (by omega) (by omega) (by omega))) ev_i rv_sub) ea_nil)))) (by simp)) rfl (fun v B6 H6 n6 rv => ret v B6 H6 ((n1.trans n2).trans n6) rv)

def rules (c : Int) : List Fa := (List.range (draw c 40 7).toNat).map fun j : Nat => fact c (41 + 4 * (j : Int)) (fr0 c) (fr1 c)
theorem rules_ok (c : Int) : FasOk (fr0 c) (fr1 c) (rules c) := by
  have h := draw_lt (c := c) (k := 40) (l := 7) (by omega)
  refine ⟨frOk c, ?_, fun f hf => ?_⟩
  · unfold rules; rw [List.length_map, List.length_range]; omega
  · obtain ⟨j, _, rfl⟩ := List.mem_map.mp hf
    exact fact_ok (frOk c)
def g__law_rules (as ds : List Dt) : Prop := ∃ c : Int, as = [.int c, eFr (fr0 c) (fr1 c)] ∧ ds = (rules c).map eFa
theorem ok__law_rules (T : Txt K mg fa fd) : FnG P w K mg base CX0 3 (fa 29) (fd 29) ["cell", "plane"] (spL g__law_rules) := by
  refine fn_L T.d__law_rules.F sc__law_rules (fun ds d h => by obtain ⟨_, rfl, _⟩ := h; rfl) (fun cdv Γ below s B H vs as ds Q E hg hr e ra hd ret => ?_)
  obtain ⟨c, rfl, rfl⟩ := hd
  rcases ra with _ | ⟨r1, _ | ⟨r2, _ | _⟩⟩
  cases r1
  have h := draw_lt (c := c) (k := 40) (l := 7) (by omega)
  refine ⟨_, (pss_one (ps_ret (pe_lc (own := [("j", 2)]) (g := (gName 2)) (tt := tYes) rfl sc__law_rules.nd (pi_range1 rfl T.n_range (pa_cons (pe_go (ok__law_draw T) hg (hr.mono (by decide)) rfl T.d__law_draw.at_ T.d__law_draw.F.kp (bn__law_draw T) pass0 (pa_cons (pv 0) (pa_cons pe_int (pa_cons pe_int pa_nil)))) pa_nil)) (blkOk_by (N := ["cell", "plane", "j"]) (sc := defScope s__law_rules) (by decide +kernel)) (fun _ _ _ _ _ => (pg_name (i := 2) sc__law_rules.nd rfl (by first | exact Or.inl rfl | exact Or.inr rfl))) (fun _ _ _ _ _ => pts_nil) (fun _ _ _ _ _ => (pe_go (ok__law_fact T) hg (hr.mono (by decide)) rfl T.d__law_fact.at_ T.d__law_fact.F.kp (bn__law_fact T) pass0 (pa_cons (pv 0) (pa_cons (pe_op op_addA pe_int (pe_op op_mul pe_int (pv 2))) (pa_cons (pv 1) pa_nil)))))))), ?_⟩
  refine s_retL e (el_lcR1 (n := draw c 40 7) (f := fun j => eFa (fact c (41 + 4 * (j : Int)) (fr0 c) (fr1 c))) (ea_cons (ev_call (by walk_at "u_ea") ⟨c, 40, 7, rfl, by decide, by decide, by decide, rfl⟩) ea_nil) (by omega) (fun _ => rfl) (fun j B1 hj hB => ?_)) (by rw [rules, List.map_map]; rfl) ret
  exact ev_call (by walk_at "u_ea") ⟨c, 41 + 4 * (j : Int), _, _, rfl, by omega, by omega, frOk c, rfl⟩

def menuFr (E : Addr) : List Dt := [(.tup [(.int 0), (.int 1)]), (.tup [(.int 1), (.int 4)]), (.tup [(.int 4), (.int 1)]), (.tup [(.int 1)]), (.tup [(.int 1), (.int 1), (.int 1)]), (.lst [(.int 1), (.int 1)]), (.tup [(.bl true), (.int 1)]), (.tup [(.int 1), (.bl true)])] ++ [(.tup [(.int 1), .non]), (.tup [(.int (-1)), (.int 2)]), (.tup [(.int 2), (.int (-(10 ^ (20 : Int).toNat)))]), .non, (.int 2), (.str "(1, 1)"), (.tup []), (.tup [(.int 1), (.str "1")])] ++ [(.tup [(.tup [(.int 1)]), (.int 1)]), (.exc E), (.tup [(.int 1), (.int (10 ^ (30 : Int).toNat))]), (.tup [(.int 1), (.exc E)])]
theorem menuFr_bad (E : Addr) : ((menuFr E).all fun d => !frameD d) = true := by kernel_rfl
theorem menu_at {L : List Dt} {c k : Int} (h : 0 < L.length) : ∃ d, d ∈ L ∧ atI L (draw c k (L.length : Nat)) = some d := by
  have dl := draw_lt (c := c) (k := k) (l := (L.length : Nat)) (by omega)
  obtain ⟨i, hi⟩ := Int.eq_ofNat_of_zero_le dl.1
  have hl : i < L.length := by omega
  refine ⟨L[i], List.getElem_mem _, ?_⟩
  rw [hi]
  exact atI_nat' (List.getElem?_eq_getElem hl)
def g__law_bad_frame (mg : Str → Option Value) (ds : List Dt) (d : Dt) : Prop := ∃ c : Int, ds = [.int c] ∧ atI (menuFr (cAt mg "PaintError")) (draw c 100 ((menuFr (cAt mg "PaintError")).length : Nat)) = some d
theorem ok__law_bad_frame (T : Txt K mg fa fd) : FnG P w K mg base CX0 2 (fa 30) (fd 30) ["cell"] (spD (g__law_bad_frame mg)) := by
  refine fn_D T.d__law_bad_frame.F sc__law_bad_frame (fun ds d h => by obtain ⟨_, rfl, _⟩ := h; rfl) (fun cdv Γ below s B H vs ds d Q E hg hr e ra hd ret => ?_)
  obtain ⟨c, rfl, hat⟩ := hd
  rcases ra with _ | ⟨r1, _ | _⟩
  cases r1
  have hu := hr.units
  refine ⟨_, (pss_cons (ps_set (i := 1) sc__law_bad_frame.nd rfl (by first | exact Or.inl rfl | exact Or.inr rfl) (pe_lst (pa_cons (pe_tup (pa_cons pe_int (pa_cons pe_int pa_nil))) (pa_cons (pe_tup (pa_cons pe_int (pa_cons pe_int pa_nil))) (pa_cons (pe_tup (pa_cons pe_int (pa_cons pe_int pa_nil))) (pa_cons (pe_tup (pa_cons pe_int pa_nil)) (pa_cons (pe_tup (pa_cons pe_int (pa_cons pe_int (pa_cons pe_int pa_nil)))) (pa_cons (pe_lst (pa_cons pe_int (pa_cons pe_int pa_nil))) (pa_cons (pe_tup (pa_cons pe_bl (pa_cons pe_int pa_nil))) (pa_cons (pe_tup (pa_cons pe_int (pa_cons pe_bl pa_nil))) pa_nil)))))))))) (pss_cons (ps_set (i := 1) sc__law_bad_frame.nd rfl (by first | exact Or.inl rfl | exact Or.inr rfl) (pe_op op_addA (pv 1) (pe_lst (pa_cons (pe_tup (pa_cons pe_int (pa_cons pe_non pa_nil))) (pa_cons (pe_tup (pa_cons (pe_un un_neg pe_int) (pa_cons pe_int pa_nil))) (pa_cons (pe_tup (pa_cons pe_int (pa_cons (pe_un un_neg (pe_op op_pow pe_int pe_int)) pa_nil))) (pa_cons pe_non (pa_cons pe_int (pa_cons pe_str (pa_cons (pe_tup pa_nil) (pa_cons (pe_tup (pa_cons pe_int (pa_cons pe_str pa_nil))) pa_nil))))))))))) (pss_cons (ps_set (i := 1) sc__law_bad_frame.nd rfl (by first | exact Or.inl rfl | exact Or.inr rfl) (pe_op op_addA (pv 1) (pe_lst (pa_cons (pe_tup (pa_cons (pe_tup (pa_cons pe_int pa_nil)) (pa_cons pe_int pa_nil))) (pa_cons (pe_exc1 PySem.F.excBase_ValueError T.e_PaintError.x T.e_PaintError.g T.e_PaintError.k rfl pe_str) (pa_cons (pe_tup (pa_cons pe_int (pa_cons (pe_op op_pow pe_int pe_int) pa_nil))) (pa_cons (pe_tup (pa_cons pe_int (pa_cons (pe_exc1 PySem.F.excBase_ValueError T.e_PaintError.x T.e_PaintError.g T.e_PaintError.k rfl pe_str) pa_nil))) pa_nil))))))) (pss_one (ps_ret (pe_ix (k_ix (K := K) rfl) (pv 1) (pe_go (ok__law_draw T) hg (hr.mono (by decide)) rfl T.d__law_draw.at_ T.d__law_draw.F.kp (bn__law_draw T) pass0 (pa_cons (pv 0) (pa_cons pe_int (pa_cons (pe_callB (k_len (K := K) rfl) rfl T.n_len (by decide +kernel) (pa_cons (pv 1) pa_nil)) pa_nil)))) (fun _ _ => rfl))))))), ?_⟩
  refine s_seq (s_asg e (by walk_at "u_ev") fun v1 B1 H1 n1 q1 => ?_)
  walk_at "u_n"
  refine s_seq (s_asg n1.sub (by walk_at "u_ev") fun v2 B2 H2 n2 q2 => ?_)
  walk_at "u_n"
  refine s_seq (s_asg (d := .lst (menuFr (cAt mg "PaintError"))) n2.sub (by walk_at "u_ev") fun v3 B3 H3 n3 q3 => ?_)
  walk_at "u_n"
  exact s_retE n3.sub (ev_op (ev_v rfl q3) (ev_call (ea_cons (ev_v rfl (.int _)) (ea_cons ev_i (ea_cons (ev_cb (ea_cons (ev_v rfl q3) ea_nil) rl_lenL) ea_nil))) ⟨c, 100, _, rfl, by decide, by decide, by show (0 : Int) < ((20 : Nat) : Int); decide, rfl⟩) (rv_ixL hat)) rfl (fun v Bz Hz nz rv => ret v Bz Hz (((n1.trans n2).trans n3).trans nz) rv)

/-! ### lists of one's own by +, [:-1] -/
def cutL (X : List Dt) : List Dt := X.take (X.length - 1)
theorem cutLast (vs : List V) : cutV vs none (some (-1)) = vs.take (vs.length - 1) := by
  have e2 : HT.sIx vs.length vs.length (some (-1)) = vs.length - 1 := by
    show (if (-1 : Int) < 0 then ((-1 : Int) + (vs.length : Int)).toNat else min (-1 : Int).toNat vs.length) = _
    rw [if_pos (by decide)]; omega
  unfold cutV
  rw [HT.sIx_none, e2]
  rfl
section
variable {σ : L2.St} {B B0 H0 H : Hp} {ta tb te : TE} {t : TT} {xs ys : List Dt} {D : Ends} {b : Bool}
theorem ev_slM (h : EvR ta σ B (.lst xs)) (hi : EvR tb σ B (.int (-1))) : EvR (tSl (rSlL K) ta tNoPart (tPart tb)) σ B (.lst (cutL xs)) := fun H1 e Q q =>
  h H1 e _ fun v B1 H2 n rv => (hi.mono n.ext) H2 n.sub _ fun w B2 H3 n2 rw => by
    obtain ⟨p, vs, rfl, hp, ra⟩ := rv.lst_inv
    have hp2 := n2.ext _ _ hp
    refine ⟨-1, rw.int_inv, p, vs, rfl, sq_of (n2.sub _ _ hp2), fun p2 hp3 => ?_⟩
    rw [cutLast]
    refine q _ (upd B2 p2 (.lst (vs.take (vs.length - 1)))) _ ((n.trans n2).trans (New.one n2.sub hp3)) (.lst upd_same ?_)
    unfold cutL
    rw [← ra.len]
    exact ((ra.mono n2.ext).take _).mono (Evl.Ex.new (fresh_back n2.sub hp3))
theorem el_cat (h : EvR ta σ B (.lst xs)) (hi : EvR tb σ B (.lst ys)) (hz : xs.length + ys.length ≤ 100000) : EvL (tOp (rOr rAdd rCat) ta tb) σ B (xs ++ ys) := fun H1 e Q q =>
  h H1 e _ fun v B2 H2 n1 rv => (hi.mono n1.ext) H2 n1.sub _ fun w B3 H3 n2 rw => by
    obtain ⟨p, vs, rfl, hp, ra⟩ := rv.lst_inv
    obtain ⟨p2, vs2, rfl, hp2, ra2⟩ := rw.lst_inv
    have N := n1.trans n2
    refine .inr ⟨p, p2, vs, vs2, rfl, rfl, N.sub _ _ (n2.ext _ _ hp), n2.sub _ _ hp2, by rw [ra.len, ra2.len]; exact sz_of hz, fun l hl => ?_⟩
    exact q l _ B3 _ ⟨N.ext, Evl.Ex.mut N.sub (fresh_back N.sub hl), Evl.Ex.mut N.heap (fresh_back N.heap hl), N.fresh⟩ ⟨fresh_back N.heap hl, fresh_back N.sub hl, upd_same⟩ ((ra.mono n2.ext).append ra2)
theorem s_ifL {q : Nat} {p0 : Addr} {vs0 : List V} {d0 d1 : List Dt} (N : New B0 H0 B H) (h : EvC t σ B b) (hx : σ[q]? = some (some (.ref p0))) (o0 : Own H0 B H p0 vs0) (r0 : RA B vs0 d0) (h1 : b = true → EvL te σ (upd B p0 (.lst vs0)) d1)
    (go : ∀ p vs B1 H1, New B0 H0 B1 H1 → Ex B B1 → Own H0 B1 H1 p vs → RA B1 vs (if b = true then d1 else d0) → D.nx (σ.set q (some (.ref p))) H1) : tIfS t (tAsg te (gName q)) tNext D σ H :=
  s_if N.sub h (fun hb H1 u => by
    have o1 := o0.up u.heap
    have N2 := (N.trans u.new).give o1
    exact h1 hb H1 (o1.ex u.sub) _ fun p vs B2 H2 n o ra => go p vs B2 H2 (N2.trans n) ((Evl.Ex.new o1.b).trans n.ext) (N2.own o) (by rw [if_pos hb]; exact ra))
  (fun hb H1 u => by
    have g := go p0 vs0 B H1 (N.trans u.new) (Evl.Ex.refl _) (o0.up u.heap) (by rw [if_neg (by rw [hb]; exact Bool.false_ne_true)]; exact r0)
    rw [set_same hx] at g
    exact g)
end
/-! ### the wrong settings -/
theorem okz_app : ∀ (xs ys : List Dt), okzAll (xs ++ ys) = (okzAll xs && okzAll ys)
  | [], ys => by simp [okzAll]
  | x :: xs, ys => by rw [List.cons_append, okzAll, okzAll, okz_app xs ys, Bool.and_assoc]
theorem okz_sub {xs ys : List Dt} (h : ∀ x ∈ ys, x ∈ xs) (hx : okzAll xs = true) : okzAll ys = true := by
  induction ys with
  | nil => simp [okzAll]
  | cons y ys ih => rw [okzAll, okz_mem hx (h y List.mem_cons_self), ih fun x hm => h x (List.mem_cons_of_mem _ hm)]; rfl
abbrev mS1 (X Y : List Dt) : List Dt := [.lst [.lst X, .lst Y], .tup [.lst X], .tup [.lst X, .lst Y, .lst []], .tup [.tup X, .lst Y], .tup [.lst X, .tup Y], .non]
abbrev mS2 (X Y : List Dt) : List Dt := [.str "setting", .int 5, .tup [], .bl true, .tup [.lst (X ++ [.int 0]), .lst Y], .tup [.lst X, .lst (Y ++ [.int 0])], .tup [.lst (cutL X), .lst Y]]
abbrev mS3 (E : Addr) (X Y : List Dt) : List Dt := [.tup [.lst X, .lst (cutL Y)], .tup [.non, .lst Y], .exc E, .lst [.lst X, .lst Y], .tup [.lst X, .non], .tup [.lst X, .int 5]]
abbrev mS4 (X Y : List Dt) : List Dt := [.tup [.lst X, .str "0"], .tup [.lst (X ++ (List.replicate (300 : Int).toNat [Dt.int 0]).flatten), .lst Y], .tup [.lst (X ++ [.int 0]), .lst (cutL Y)], .tup [.lst (cutL X), .lst (Y ++ [.int 0])]]
abbrev mS5 (X Y : List Dt) : List Dt := [.tup [.lst Y, .lst X], .tup [.lst Y, .lst X], .tup [.lst Y, .lst X]]
def subD (X : List Dt) (o : Dt) (at_ : Int) : Dt := .lst ((X.take at_.toNat ++ [o]) ++ X.drop (at_ + 1).toNat)
def mS14 (E : Addr) (X Y : List Dt) : List Dt := ((mS1 X Y ++ mS2 X Y) ++ mS3 E X Y) ++ mS4 X Y
def mSall (E : Addr) (X Y : List Dt) (o : Dt) (at1 at2 : Int) : List Dt := ((if decide (X.length ≠ Y.length) = true then mS14 E X Y ++ mS5 X Y else mS14 E X Y) ++ List.replicate 6 (.tup [subD X o at1, .lst Y])) ++ List.replicate 6 (.tup [.lst X, subD Y o at2])
def oddD (E : Addr) : List Dt := [.bl true, .bl false, .non, .str "0", .tup [.int 0], .lst [.int 0], .exc E, .tup []]
theorem oddD_ok (E : Addr) : ((oddD E).all fun o => !isI o && o.okz) = true := by kernel_rfl
theorem row_len {X : List Dt} {n : Int} (h : (X.length : Int) ≠ n) : rowD (.lst X) n = false := by
  show (decide ((X.length : Int) = n) && X.all isI) = false
  rw [decide_eq_false h]; rfl
theorem row_odd {X : List Dt} {n : Int} {o : Dt} (hm : o ∈ X) (h : isI o = false) : rowD (.lst X) n = false := by
  show (decide ((X.length : Int) = n) && X.all isI) = false
  rw [Bool.and_eq_false_iff]; right; rw [List.all_eq_false]; exact ⟨o, hm, by rw [h]; exact Bool.false_ne_true⟩
theorem set_no1 {a b : Int} {p q : Dt} (h : rowD p a = false) : settingD a b (.tup [p, q]) = false := by
  show (rowD p a && rowD q b) = false; rw [h]; rfl
theorem set_no2 {a b : Int} {p q : Dt} (h : rowD q b = false) : settingD a b (.tup [p, q]) = false := by
  show (rowD p a && rowD q b) = false; rw [h, Bool.and_false]
theorem okz_l {X : List Dt} (h : okzAll X = true) (l : X.length ≤ 1000) : (Dt.lst X).okz = true := by rw [Dt.okz, h, decide_eq_true l]; rfl
theorem okz_t {X : List Dt} (h : okzAll X = true) (l : X.length ≤ 1000) : (Dt.tup X).okz = true := by rw [Dt.okz, h, decide_eq_true l]; rfl
theorem okz_t2 {p q : Dt} (h : p.okz = true) (k : q.okz = true) : (Dt.tup [p, q]).okz = true := okz_t (by rw [okzAll, okzAll, okzAll, h, k]; rfl) (by simp)
theorem okz_l2 {p q : Dt} (h : p.okz = true) (k : q.okz = true) : (Dt.lst [p, q]).okz = true := okz_l (by rw [okzAll, okzAll, okzAll, h, k]; rfl) (by simp)
theorem cutL_len (X : List Dt) : (cutL X).length = X.length - 1 := by unfold cutL; rw [List.length_take]; omega
theorem z300_len : (List.replicate (300 : Int).toNat [Dt.int 0]).flatten.length = 300 := by decide +kernel
theorem z300_ok : okzAll (List.replicate (300 : Int).toNat [Dt.int 0]).flatten = true := by decide +kernel
theorem mSall_bad (E : Addr) {a b at1 at2 : Int} {X Y : List Dt} {o : Dt} (lx : (X.length : Int) = a) (ly : (Y.length : Int) = b) (hf : FrOk a b) (ox : okzAll X = true) (oy : okzAll Y = true) (h1 : isI o = false) (h2 : o.okz = true) : ∀ d ∈ mSall E X Y o at1 at2, settingD a b d = false ∧ d.okz = true := fun d hd => by
  obtain ⟨a1, a3, b1, b3⟩ := hf
  have i0 : (Dt.int 0).okz = true := by rw [Dt.okz]; all_goals simp
  have kX : (Dt.lst X).okz = true := okz_l ox (by omega)
  have kY : (Dt.lst Y).okz = true := okz_l oy (by omega)
  have kX1 : (Dt.lst (X ++ [.int 0])).okz = true := okz_l (by rw [okz_app, ox, okzAll, okzAll, i0]; rfl) (by simp; omega)
  have kY1 : (Dt.lst (Y ++ [.int 0])).okz = true := okz_l (by rw [okz_app, oy, okzAll, okzAll, i0]; rfl) (by simp; omega)
  have kX3 : (Dt.lst (X ++ (List.replicate (300 : Int).toNat [Dt.int 0]).flatten)).okz = true := okz_l (by rw [okz_app, ox, z300_ok]; rfl) (by rw [List.length_append, z300_len]; omega)
  have kcX : (Dt.lst (cutL X)).okz = true := okz_l (okz_sub (fun x hm => List.mem_of_mem_take hm) ox) (by rw [cutL_len]; omega)
  have kcY : (Dt.lst (cutL Y)).okz = true := okz_l (okz_sub (fun x hm => List.mem_of_mem_take hm) oy) (by rw [cutL_len]; omega)
  have lX1 : ((X ++ [Dt.int 0]).length : Int) ≠ a := by rw [List.length_append]; simp; omega
  have lY1 : ((Y ++ [Dt.int 0]).length : Int) ≠ b := by rw [List.length_append]; simp; omega
  have lX3 : ((X ++ (List.replicate (300 : Int).toNat [Dt.int 0]).flatten).length : Int) ≠ a := by rw [List.length_append, z300_len]; omega
  have lcX : ((cutL X).length : Int) ≠ a := by rw [cutL_len]; omega
  have lcY : ((cutL Y).length : Int) ≠ b := by rw [cutL_len]; omega
  have kn : Dt.non.okz = true := by rw [Dt.okz]; all_goals simp
  have k5 : (Dt.int 5).okz = true := by rw [Dt.okz]; all_goals simp
  have k0 : (Dt.str "0").okz = true := by rw [Dt.okz]; all_goals simp
  have sub : ∀ (Z : List Dt) (at_ : Int), okzAll Z = true → Z.length ≤ 3 → (subD Z o at_).okz = true := fun Z at_ hz hl => by
    unfold subD
    refine okz_l ?_ ?_
    · rw [okz_app, okz_app, okz_sub (fun x hm => List.mem_of_mem_take hm) hz, okz_sub (fun x hm => List.mem_of_mem_drop hm) hz, okzAll, okzAll, h2]; rfl
    · rw [List.length_append, List.length_append, List.length_take, List.length_drop]; simp; omega
  have odd : ∀ (Z : List Dt) (at_ n : Int), rowD (subD Z o at_) n = false := fun Z at_ n => row_odd (o := o) (by simp) h1
  rcases List.mem_append.mp hd with hd | hd
  · rcases List.mem_append.mp hd with hd | hd
    · have base : ∀ d ∈ mS14 E X Y, settingD a b d = false ∧ d.okz = true := fun d hd => by
        rcases List.mem_append.mp hd with hd | hd
        · rcases List.mem_append.mp hd with hd | hd
          · rcases List.mem_append.mp hd with hd | hd
            · simp only [List.mem_cons, List.not_mem_nil, or_false] at hd
              rcases hd with z | z | z | z | z | z <;> subst z
              · exact ⟨rfl, okz_l2 kX kY⟩
              · exact ⟨rfl, okz_t (by rw [okzAll, okzAll, kX]; rfl) (by simp)⟩
              · exact ⟨rfl, okz_t (by rw [okzAll, okzAll, okzAll, okzAll, kX, kY, Dt.okz, okzAll]; rfl) (by simp)⟩
              · exact ⟨set_no1 rfl, okz_t2 (okz_t ox (by omega)) kY⟩
              · exact ⟨set_no2 rfl, okz_t2 kX (okz_t oy (by omega))⟩
              · exact ⟨rfl, kn⟩
            · simp only [List.mem_cons, List.not_mem_nil, or_false] at hd
              rcases hd with z | z | z | z | z | z | z <;> subst z
              · exact ⟨rfl, by rw [Dt.okz]; all_goals simp⟩
              · exact ⟨rfl, k5⟩
              · exact ⟨rfl, okz_t (by rw [okzAll]) (by simp)⟩
              · exact ⟨rfl, by rw [Dt.okz]; all_goals simp⟩
              · exact ⟨set_no1 (row_len lX1), okz_t2 kX1 kY⟩
              · exact ⟨set_no2 (row_len lY1), okz_t2 kX kY1⟩
              · exact ⟨set_no1 (row_len lcX), okz_t2 kcX kY⟩
          · simp only [List.mem_cons, List.not_mem_nil, or_false] at hd
            rcases hd with z | z | z | z | z | z <;> subst z
            · exact ⟨set_no2 (row_len lcY), okz_t2 kX kcY⟩
            · exact ⟨set_no1 rfl, okz_t2 kn kY⟩
            · exact ⟨rfl, by rw [Dt.okz]; all_goals simp⟩
            · exact ⟨rfl, okz_l2 kX kY⟩
            · exact ⟨set_no2 rfl, okz_t2 kX kn⟩
            · exact ⟨set_no2 rfl, okz_t2 kX k5⟩
        · simp only [List.mem_cons, List.not_mem_nil, or_false] at hd
          rcases hd with z | z | z | z <;> subst z
          · exact ⟨set_no2 rfl, okz_t2 kX k0⟩
          · exact ⟨set_no1 (row_len lX3), okz_t2 kX3 kY⟩
          · exact ⟨set_no1 (row_len lX1), okz_t2 kX1 kcY⟩
          · exact ⟨set_no1 (row_len lcX), okz_t2 kcX kY1⟩
      by_cases hne : X.length ≠ Y.length
      · rw [if_pos (decide_eq_true hne)] at hd
        rcases List.mem_append.mp hd with hd | hd
        · exact base d hd
        · simp only [List.mem_cons, List.not_mem_nil, or_false, or_self] at hd
          subst hd
          exact ⟨set_no1 (row_len (by omega)), okz_t2 kY kX⟩
      · rw [if_neg (by rw [decide_eq_false hne]; exact Bool.false_ne_true)] at hd
        exact base d hd
    · rw [(List.mem_replicate.mp hd).2]
      exact ⟨set_no1 (odd X at1 a), okz_t2 (sub X at1 ox (by omega)) kY⟩
  · rw [(List.mem_replicate.mp hd).2]
    exact ⟨set_no2 (odd Y at2 b), okz_t2 kX (sub Y at2 oy (by omega))⟩
def g__law_bad_setting (mg : Str → Option Value) (ds : List Dt) (d : Dt) : Prop := ∃ (c a b : Int) (X Y : List Dt) (o : Dt), ds = [.int c, eFr a b, .tup [.lst X, .lst Y]] ∧ (X.length : Int) = a ∧ (Y.length : Int) = b ∧ FrOk a b ∧
  atI (oddD (cAt mg "PaintError")) (draw c 102 8) = some o ∧ atI (mSall (cAt mg "PaintError") X Y o (draw c 101 (X.length : Nat)) (draw c 103 (Y.length : Nat))) (draw c 104 ((mSall (cAt mg "PaintError") X Y o (draw c 101 (X.length : Nat)) (draw c 103 (Y.length : Nat))).length : Nat)) = some d
theorem mSall_len (E : Addr) (X Y : List Dt) (o : Dt) (i j : Int) : 12 ≤ (mSall E X Y o i j).length ∧ (mSall E X Y o i j).length ≤ 100 := by
  unfold mSall mS14
  split <;> simp
local macro_rules | `(tactic| walk_at "u_ev") => `(tactic| ((with_reducible refine' ev_slM ?ha ?hi); (case ha => walk_at "u_ev"); (case hi => exact EvR.is (ev_un ev_i ru_neg) rfl)))
theorem ok__law_bad_setting (T : Txt K mg fa fd) : FnG P w K mg base CX0 2 (fa 31) (fd 31) ["cell", "plane", "point"] (spD (g__law_bad_setting mg)) := by
  refine fn_D T.d__law_bad_setting.F sc__law_bad_setting (fun ds d h => by obtain ⟨_, _, _, _, _, _, rfl, _⟩ := h; rfl) (fun cdv Γ below s B H vs ds d Q E hg hr e ra hd ret => ?_)
  obtain ⟨c, a, b, X, Y, o, rfl, lx, ly, hf, ho, hat⟩ := hd
  rcases ra with _ | ⟨r1, _ | ⟨r2, _ | ⟨r3, _ | _⟩⟩⟩
  cases r1
  have hu := hr.units
  obtain ⟨a1, a3, b1, b3⟩ := hf
  have lX : X.length ≤ 3 := by omega
  have lY : Y.length ≤ 3 := by omega
  have gx : 0 < ((X.length : Nat) : Int) := by omega
  have gy : 0 < ((Y.length : Nat) : Int) := by omega
  have dx := draw_lt (c := c) (k := 101) (l := ((X.length : Nat) : Int)) gx
  have dy := draw_lt (c := c) (k := 103) (l := ((Y.length : Nat) : Int)) gy
  have hml := mSall_len (cAt mg "PaintError") X Y o (draw c 101 (X.length : Nat)) (draw c 103 (Y.length : Nat))
  refine ⟨_, (pss_cons (ps_asg (pv 2) (pg_tup rfl (pgs_cons (pg_name (i := 3) sc__law_bad_setting.nd rfl (by first | exact Or.inl rfl | exact Or.inr rfl)) (pgs_cons (pg_name (i := 4) sc__law_bad_setting.nd rfl (by first | exact Or.inl rfl | exact Or.inr rfl)) pgs_nil)))) (pss_cons (ps_set (i := 5) sc__law_bad_setting.nd rfl (by first | exact Or.inl rfl | exact Or.inr rfl) (pe_lst (pa_cons (pe_callTy (k_list (K := K) rfl) rfl T.n_list (by decide +kernel) (pa_cons (pv 2) pa_nil)) (pa_cons (pe_tup (pa_cons (pv 3) pa_nil)) (pa_cons (pe_tup (pa_cons (pv 3) (pa_cons (pv 4) (pa_cons (pe_lst pa_nil) pa_nil)))) (pa_cons (pe_tup (pa_cons (pe_callTy (k_tuple (K := K) rfl) rfl T.n_tuple (by decide +kernel) (pa_cons (pv 3) pa_nil)) (pa_cons (pv 4) pa_nil))) (pa_cons (pe_tup (pa_cons (pv 3) (pa_cons (pe_callTy (k_tuple (K := K) rfl) rfl T.n_tuple (by decide +kernel) (pa_cons (pv 4) pa_nil)) pa_nil))) (pa_cons pe_non pa_nil)))))))) (pss_cons (ps_set (i := 5) sc__law_bad_setting.nd rfl (by first | exact Or.inl rfl | exact Or.inr rfl) (pe_op op_addA (pv 5) (pe_lst (pa_cons pe_str (pa_cons pe_int (pa_cons (pe_tup pa_nil) (pa_cons pe_bl (pa_cons (pe_tup (pa_cons (pe_op op_addA (pv 3) (pe_lst (pa_cons pe_int pa_nil))) (pa_cons (pv 4) pa_nil))) (pa_cons (pe_tup (pa_cons (pv 3) (pa_cons (pe_op op_addA (pv 4) (pe_lst (pa_cons pe_int pa_nil))) pa_nil))) (pa_cons (pe_tup (pa_cons (pe_slice (k_slice (K := K) rfl) (pv 3) po_none (po_some (pe_un un_neg pe_int))) (pa_cons (pv 4) pa_nil))) pa_nil)))))))))) (pss_cons (ps_set (i := 5) sc__law_bad_setting.nd rfl (by first | exact Or.inl rfl | exact Or.inr rfl) (pe_op op_addA (pv 5) (pe_lst (pa_cons (pe_tup (pa_cons (pv 3) (pa_cons (pe_slice (k_slice (K := K) rfl) (pv 4) po_none (po_some (pe_un un_neg pe_int))) pa_nil))) (pa_cons (pe_tup (pa_cons pe_non (pa_cons (pv 4) pa_nil))) (pa_cons (pe_exc1 PySem.F.excBase_ValueError T.e_PaintError.x T.e_PaintError.g T.e_PaintError.k rfl pe_str) (pa_cons (pe_lst (pa_cons (pv 3) (pa_cons (pv 4) pa_nil))) (pa_cons (pe_tup (pa_cons (pv 3) (pa_cons pe_non pa_nil))) (pa_cons (pe_tup (pa_cons (pv 3) (pa_cons pe_int pa_nil))) pa_nil))))))))) (pss_cons (ps_set (i := 5) sc__law_bad_setting.nd rfl (by first | exact Or.inl rfl | exact Or.inr rfl) (pe_op op_addA (pv 5) (pe_lst (pa_cons (pe_tup (pa_cons (pv 3) (pa_cons pe_str pa_nil))) (pa_cons (pe_tup (pa_cons (pe_op op_addA (pv 3) (pe_op op_rep (pe_lst (pa_cons pe_int pa_nil)) pe_int)) (pa_cons (pv 4) pa_nil))) (pa_cons (pe_tup (pa_cons (pe_op op_addA (pv 3) (pe_lst (pa_cons pe_int pa_nil))) (pa_cons (pe_slice (k_slice (K := K) rfl) (pv 4) po_none (po_some (pe_un un_neg pe_int))) pa_nil))) (pa_cons (pe_tup (pa_cons (pe_slice (k_slice (K := K) rfl) (pv 3) po_none (po_some (pe_un un_neg pe_int))) (pa_cons (pe_op op_addA (pv 4) (pe_lst (pa_cons pe_int pa_nil))) pa_nil))) pa_nil))))))) (pss_cons (ps_if (pt_cmpR (k_ne (K := K) rfl hu) (pe_callB (k_len (K := K) rfl) rfl T.n_len (by decide +kernel) (pa_cons (pv 3) pa_nil)) (pe_callB (k_len (K := K) rfl) rfl T.n_len (by decide +kernel) (pa_cons (pv 4) pa_nil)) (nomark _)) (pss_one (ps_set (i := 5) sc__law_bad_setting.nd rfl (by first | exact Or.inl rfl | exact Or.inr rfl) (pe_op op_addA (pv 5) (pe_lst (pa_cons (pe_tup (pa_cons (pv 4) (pa_cons (pv 3) pa_nil))) (pa_cons (pe_tup (pa_cons (pv 4) (pa_cons (pv 3) pa_nil))) (pa_cons (pe_tup (pa_cons (pv 4) (pa_cons (pv 3) pa_nil))) pa_nil))))))) pss_nil) (pss_cons (ps_set (i := 6) sc__law_bad_setting.nd rfl (by first | exact Or.inl rfl | exact Or.inr rfl) (pe_go (ok__law_draw T) hg (hr.mono (by decide)) rfl T.d__law_draw.at_ T.d__law_draw.F.kp (bn__law_draw T) pass0 (pa_cons (pv 0) (pa_cons pe_int (pa_cons (pe_callB (k_len (K := K) rfl) rfl T.n_len (by decide +kernel) (pa_cons (pv 3) pa_nil)) pa_nil))))) (pss_cons (ps_set (i := 7) sc__law_bad_setting.nd rfl (by first | exact Or.inl rfl | exact Or.inr rfl) (pe_ix (k_ix (K := K) rfl) (pe_lst (pa_cons pe_bl (pa_cons pe_bl (pa_cons pe_non (pa_cons pe_str (pa_cons (pe_tup (pa_cons pe_int pa_nil)) (pa_cons (pe_lst (pa_cons pe_int pa_nil)) (pa_cons (pe_exc1 PySem.F.excBase_ValueError T.e_PaintError.x T.e_PaintError.g T.e_PaintError.k rfl pe_str) (pa_cons (pe_tup pa_nil) pa_nil))))))))) (pe_go (ok__law_draw T) hg (hr.mono (by decide)) rfl T.d__law_draw.at_ T.d__law_draw.F.kp (bn__law_draw T) pass0 (pa_cons (pv 0) (pa_cons pe_int (pa_cons pe_int pa_nil)))) (fun _ _ => rfl))) (pss_cons (ps_for PassesOwn.never rfl (pi_range1 rfl T.n_range (pa_cons pe_int pa_nil)) (pg_name (i := 8) sc__law_bad_setting.nd rfl (by first | exact Or.inl rfl | exact Or.inr rfl)) (pss_one (ps_expr (pe_bm PySem.F.plainAttrs_list PySem.F.slot_list_append PySem.F.type_list_append mt_append (pv 5) (pa_cons (pe_tup (pa_cons (pe_op op_addA (pe_op op_addA (pe_slice (k_slice (K := K) rfl) (pv 3) po_none (po_some (pv 6))) (pe_lst (pa_cons (pv 7) pa_nil))) (pe_slice (k_slice (K := K) rfl) (pv 3) (po_some (pe_op op_addA (pv 6) pe_int)) po_none)) (pa_cons (pv 4) pa_nil))) pa_nil))))) (pss_cons (ps_set (i := 6) sc__law_bad_setting.nd rfl (by first | exact Or.inl rfl | exact Or.inr rfl) (pe_go (ok__law_draw T) hg (hr.mono (by decide)) rfl T.d__law_draw.at_ T.d__law_draw.F.kp (bn__law_draw T) pass0 (pa_cons (pv 0) (pa_cons pe_int (pa_cons (pe_callB (k_len (K := K) rfl) rfl T.n_len (by decide +kernel) (pa_cons (pv 4) pa_nil)) pa_nil))))) (pss_cons (ps_for PassesOwn.never rfl (pi_range1 rfl T.n_range (pa_cons pe_int pa_nil)) (pg_name (i := 8) sc__law_bad_setting.nd rfl (by first | exact Or.inl rfl | exact Or.inr rfl)) (pss_one (ps_expr (pe_bm PySem.F.plainAttrs_list PySem.F.slot_list_append PySem.F.type_list_append mt_append (pv 5) (pa_cons (pe_tup (pa_cons (pv 3) (pa_cons (pe_op op_addA (pe_op op_addA (pe_slice (k_slice (K := K) rfl) (pv 4) po_none (po_some (pv 6))) (pe_lst (pa_cons (pv 7) pa_nil))) (pe_slice (k_slice (K := K) rfl) (pv 4) (po_some (pe_op op_addA (pv 6) pe_int)) po_none)) pa_nil))) pa_nil))))) (pss_one (ps_ret (pe_ix (k_ix (K := K) rfl) (pv 5) (pe_go (ok__law_draw T) hg (hr.mono (by decide)) rfl T.d__law_draw.at_ T.d__law_draw.F.kp (bn__law_draw T) pass0 (pa_cons (pv 0) (pa_cons pe_int (pa_cons (pe_callB (k_len (K := K) rfl) rfl T.n_len (by decide +kernel) (pa_cons (pv 5) pa_nil)) pa_nil)))) (fun _ _ => rfl))))))))))))))), ?_⟩
  refine s_seq (s_asg2 e (ev_v rfl r3) fun v1 w1 B1 H1 n1 rx ry => ?_)
  walk_at "u_n"
  have r3 := r3.mono n1.ext
  refine s_seq (s_asg (d := .lst (mS1 X Y)) n1.sub (by walk_at "u_ev") fun v2 B2 H2 n2 q2 => ?_)
  walk_at "u_n"
  have rx := rx.mono n2.ext
  have ry := ry.mono n2.ext
  refine s_seq (s_asg (d := .lst (mS1 X Y ++ mS2 X Y)) n2.sub (by walk_at "u_ev") fun v3 B3 H3 n3 q3 => ?_)
  walk_at "u_n"
  have rx := rx.mono n3.ext
  have ry := ry.mono n3.ext
  refine s_seq (s_asg (d := .lst ((mS1 X Y ++ mS2 X Y) ++ mS3 (cAt mg "PaintError") X Y)) n3.sub (by walk_at "u_ev") fun v4 B4 H4 n4 q4 => ?_)
  walk_at "u_n"
  have rx := rx.mono n4.ext
  have ry := ry.mono n4.ext
  have N4 := ((n1.trans n2).trans n3).trans n4
  refine s_seq (s_asgL (ds := mS14 (cAt mg "PaintError") X Y) n4.sub (el_cat (ev_v rfl q4) (ev_lst (ds := mS4 X Y) (by walk_at "u_ea") (by simp)) (by simp)) fun p us B5 H5 n5 o5 ra5 => ?_)
  walk_at "u_n"
  have o5 := N4.own o5
  have N5 := N4.trans n5
  have rx := rx.mono n5.ext
  have ry := ry.mono n5.ext
  have e5 : Ex B5 (upd B5 p (.lst us)) := Evl.Ex.new o5.b
  refine s_seq (s_ifL (d1 := mS14 (cAt mg "PaintError") X Y ++ mS5 X Y) (b := decide (X.length ≠ Y.length)) N5 (EvC.is (ec_t (ev_op (ev_cb (ea_cons (ev_v rfl rx) ea_nil) rl_lenL) (ev_cb (ea_cons (ev_v rfl ry) ea_nil) rl_lenL) (rv_inl rv_neI))) (by rw [Bool.eq_iff_iff]; simp; omega)) rfl o5 ra5 (fun _ => el_cat (ev_v rfl (o5.data ra5)) (ev_lst (ds := mS5 X Y) (ea_cons (ev_tup (ea_cons (ev_v rfl (ry.mono e5)) (ea_cons (ev_v rfl (rx.mono e5)) ea_nil)) (by simp)) (ea_cons (ev_tup (ea_cons (ev_v rfl (ry.mono e5)) (ea_cons (ev_v rfl (rx.mono e5)) ea_nil)) (by simp)) (ea_cons (ev_tup (ea_cons (ev_v rfl (ry.mono e5)) (ea_cons (ev_v rfl (rx.mono e5)) ea_nil)) (by simp)) ea_nil))) (by simp)) (by simp [mS14])) fun p us B6 H6 N6 x6 o6 ra6 => ?_)
  walk_at "u_n"
  have rx := rx.mono x6
  have ry := ry.mono x6
  unfold mSall at hat hml
  generalize (if decide (X.length ≠ Y.length) = true then mS14 (cAt mg "PaintError") X Y ++ mS5 X Y else mS14 (cAt mg "PaintError") X Y) = M at *
  refine s_seq (s_asg (d := .int (draw c 101 (X.length : Nat))) N6.sub (ev_call (ea_cons (ev_v rfl (.int _)) (ea_cons ev_i (ea_cons (ev_cb (ea_cons (ev_v rfl rx) ea_nil) rl_lenL) ea_nil))) ⟨c, 101, _, rfl, by decide, by decide, gx, rfl⟩) fun v7 B7 H7 n7 q7 => ?_)
  cases q7
  walk_at "u_n"
  refine s_seq (s_asg (d := o) n7.sub (ev_op (ev_lst (ds := oddD (cAt mg "PaintError")) (by unfold oddD; walk_at "u_ea") (show (8 : Nat) ≤ 100000 by decide)) (ev_call (ea_cons (ev_v rfl (.int _)) (ea_cons ev_i (ea_cons ev_i ea_nil))) ⟨c, 102, 8, rfl, by decide, by decide, by decide, rfl⟩) (rv_ixL ho)) fun v8 B8 H8 n8 q8 => ?_)
  walk_at "u_n"
  have N8 := (N6.trans n7).trans n8
  have rx := rx.mono (n7.trans n8).ext
  have ry := ry.mono (n7.trans n8).ext
  have o8 := o6.step (n7.trans n8)
  have ra8 := ra6.mono (n7.trans n8).ext
  have lM : M.length ≤ 88 := by rw [List.length_append, List.length_append, List.length_replicate, List.length_replicate] at hml; omega
  generalize draw c 101 (X.length : Nat) = at1 at *
  generalize hat2 : draw c 103 (Y.length : Nat) = at2 at *
  have cat1 : ∀ (Z : List Dt) (at_ : Int), Z.length ≤ 3 → (Z.take at_.toNat).length + [o].length ≤ 100000 := fun Z at_ hz => by rw [List.length_take]; simp only [List.length_cons, List.length_nil]; omega
  have cat2 : ∀ (Z : List Dt) (at_ : Int), Z.length ≤ 3 → (Z.take at_.toNat ++ [o]).length + (Z.drop (at_ + 1).toNat).length ≤ 100000 := fun Z at_ hz => by rw [List.length_append, List.length_take, List.length_drop]; simp only [List.length_cons, List.length_nil]; omega
  refine s_seq (s_forR (n := 6) N8.sub (ea_cons ev_i ea_nil) ⟨by decide, by decide⟩ (fun i σ' H' => ∃ (B' : Hp) (us : List V) (z1 z2 : V) (z8 : Option V), σ' = [some (.int c), some z1, some z2, some v1, some w1, some (.ref p), some (.int at1), some v8, z8] ∧ New B H B' H' ∧ Ex B8 B' ∧ Own H B' H' p us ∧ RA B' us (M ++ List.replicate i (.tup [subD X o at1, .lst Y]))) ?_ ?_ ?_)
  · intro H9 u9
    exact ⟨B8, us, _, _, _, rfl, N8.trans u9.new, Evl.Ex.refl _, o8.up u9.heap, by rw [List.replicate_zero, List.append_nil]; exact ra8⟩
  · rintro i σ' H' hi ⟨B', us', z1, z2, z8, rfl, N', x', o', ra'⟩
    walk_at "u_n"
    refine s_app (d := .tup [subD X o at1, .lst Y]) N'.sub o' rfl (ev_tup (ea_cons (EvR.is (ev_op (ev_op (ev_slTo (ev_v rfl (rx.mono x')) (ev_v rfl (.int _)) dx.1) (ev_lst (ea_cons (ev_v rfl (q8.mono x')) ea_nil) (by simp)) (rv_inr (rv_cat (cat1 X at1 lX)))) (ev_slFr (ev_v rfl (rx.mono x')) (ev_op (ev_v rfl (.int _)) ev_i (rv_inl rv_add)) (by omega)) (rv_inr (rv_cat (cat2 X at1 lX)))) rfl) (ea_cons (ev_v rfl (ry.mono x')) ea_nil)) (by simp)) (by rw [ra'.len, List.length_append, List.length_replicate]; omega) fun v Bz Hz nz oz rz => ?_
    exact ⟨Bz, _, _, _, _, rfl, (N'.trans nz).put ⟨o'.h0, oz.b, oz.h⟩, x'.trans nz.ext, oz.put, by rw [List.replicate_succ' (n := i), ← List.append_assoc]; exact (ra'.mono nz.ext).append (.cons rz .nil)⟩
  · rintro σ' H' ⟨B', us', z1, z2, z8, rfl, N', x', o', ra'⟩
    walk_at "u_n"
    refine s_seq (s_asg (d := .int at2) N'.sub (EvR.is (ev_call (ea_cons (ev_v rfl (.int _)) (ea_cons ev_i (ea_cons (ev_cb (ea_cons (ev_v rfl (ry.mono x')) ea_nil) rl_lenL) ea_nil))) ⟨c, 103, _, rfl, by decide, by decide, gy, rfl⟩) (by rw [hat2])) fun v9 B9 H9 n9 q9 => ?_)
    cases q9
    walk_at "u_n"
    have N9 := N'.trans n9
    have rx := rx.mono (x'.trans n9.ext)
    have ry := ry.mono (x'.trans n9.ext)
    have q8 := q8.mono (x'.trans n9.ext)
    have o9 := o'.step n9
    have ra9 := ra'.mono n9.ext
    refine s_seq (s_forR (n := 6) N9.sub (ea_cons ev_i ea_nil) ⟨by decide, by decide⟩ (fun i σ' H' => ∃ (B' : Hp) (us : List V) (z1 z2 : V) (z8 : Option V), σ' = [some (.int c), some z1, some z2, some v1, some w1, some (.ref p), some (.int at2), some v8, z8] ∧ New B H B' H' ∧ Ex B9 B' ∧ Own H B' H' p us ∧ RA B' us ((M ++ List.replicate 6 (.tup [subD X o at1, .lst Y])) ++ List.replicate i (.tup [.lst X, subD Y o at2]))) ?_ ?_ ?_)
    · intro H10 u10
      exact ⟨B9, us', _, _, _, rfl, N9.trans u10.new, Evl.Ex.refl _, o9.up u10.heap, by rw [List.replicate_zero, List.append_nil]; exact ra9⟩
    · rintro i σ' H' hi ⟨B', us', z1, z2, z8, rfl, N', x', o', ra'⟩
      walk_at "u_n"
      refine s_app (d := .tup [.lst X, subD Y o at2]) N'.sub o' rfl (ev_tup (ea_cons (ev_v rfl (rx.mono x')) (ea_cons (EvR.is (ev_op (ev_op (ev_slTo (ev_v rfl (ry.mono x')) (ev_v rfl (.int _)) dy.1) (ev_lst (ea_cons (ev_v rfl (q8.mono x')) ea_nil) (by simp)) (rv_inr (rv_cat (cat1 Y at2 lY)))) (ev_slFr (ev_v rfl (ry.mono x')) (ev_op (ev_v rfl (.int _)) ev_i (rv_inl rv_add)) (by omega)) (rv_inr (rv_cat (cat2 Y at2 lY)))) rfl) ea_nil)) (by simp)) (by rw [ra'.len, List.length_append, List.length_append, List.length_replicate, List.length_replicate]; omega) fun v Bz Hz nz oz rz => ?_
      exact ⟨Bz, _, _, _, _, rfl, (N'.trans nz).put ⟨o'.h0, oz.b, oz.h⟩, x'.trans nz.ext, oz.put, by rw [List.replicate_succ' (n := i), ← List.append_assoc]; exact (ra'.mono nz.ext).append (.cons rz .nil)⟩
    · rintro σ' H' ⟨B', us', z1, z2, z8, rfl, N', x', o', ra'⟩
      walk_at "u_n"
      have ra' : RA B' us' ((M ++ List.replicate 6 (.tup [subD X o at1, .lst Y])) ++ List.replicate 6 (.tup [.lst X, subD Y o at2])) := ra'
      have rm := o'.data ra'
      have Ng := N'.give o'
      exact s_retE Ng.sub (ev_op (ev_v rfl rm) (ev_call (ea_cons (ev_v rfl (.int _)) (ea_cons ev_i (ea_cons (ev_cb (ea_cons (ev_v rfl rm) ea_nil) rl_lenL) ea_nil))) ⟨c, 104, _, rfl, by decide, by decide, by have := hml.1; omega, rfl⟩) (rv_ixL hat)) rfl (fun v Bz Hz nz rv => ret v Bz Hz (Ng.trans nz) rv)

def menuFa (E : Addr) (a b : Int) : List Dt := [(.tup [(.str "x"), (.int a), (.int 0), (.int 1)]), (.tup [(.str "x"), (.int 0), (.int a), (.int 1)]), (.tup [(.str "y"), (.int b), (.int 0), (.int 1)])] ++ [(.tup [(.str "y"), (.int 0), (.int b), (.int 1)]), (.tup [(.str "x"), (.int (-1)), (.int 0), (.int 1)]), (.tup [(.str "x"), (.int 0), (.int (-1)), (.int 1)]), (.tup [(.str "x"), (.int 0), (.int 0), (.int 7)])] ++ [(.tup [(.str "y"), (.int 0), (.int 0), (.int (-7))]), (.tup [(.str "x"), (.int 0), (.int 0), (.bl true)]), (.tup [(.str "x"), (.int 0), (.bl false), (.int 1)]), (.tup [(.str "z"), (.int 0), (.int 0), (.int 1)])] ++ [(.tup [(.str "x"), (.bl true), (.int 0), (.int 0)]), (.tup [(.str "x"), (.int 0), (.int 0)]), (.tup [(.str "x"), (.int 0), (.int 0), (.int 0), (.int 0)]), (.lst [(.str "x"), (.int 0), (.int 0), (.int 0)])] ++ [(.tup [(.int 0), (.int 0), (.int 0), (.int 0)]), (.tup [(.str "xy"), (.int 0), (.int 0), (.int 0)]), .non, (.str "x"), (.int 5), (.tup []), (.tup [(.str ""), (.int 0), (.int 0), (.int 0)])] ++ [(.tup [(.str "X"), (.int 0), (.int 0), (.int 0)]), (.tup [(.str "x"), .non, (.int 0), (.int 0)]), (.tup [(.str "y"), (.int 0), (.int 0), (.str "1")]), (.tup [(.str "y"), (.int 0), (.tup [(.int 0)]), (.int 0)])] ++ [(.exc E), (.tup [(.str "x"), (.int 0), (.int 0), (.exc E)]), (.tup [(.lst [(.str "x")]), (.int 0), (.int 0), (.int 0)])] ++ [(.tup [(.str "x"), (.int 0), (.int 0), (.int (10 ^ (30 : Int).toNat))]), (.tup [(.str "y"), (.int (-(10 ^ (20 : Int).toNat))), (.int 0), (.int 0)]), (.tup [(.str "x"), (.int (a + 1)), (.int 0), (.int 1)])] ++ [(.tup [(.str "x"), (.int (10 ^ (30 : Int).toNat)), (.int 0), (.int 0)]), (.tup [(.str "y"), (.int 0), (.int (-2)), (.int 0)]), (.tup [(.str "y"), (.int 0), (.int (b + 2)), (.int 0)])]
theorem menuFa_bad (E : Addr) {a b : Int} (h : FrOk a b) : ((menuFa E a b).all fun d => !factD a b d && d.okz) = true := by
  obtain ⟨a1, a3, b1, b3⟩ := h
  have ha : a = 1 ∨ a = 2 ∨ a = 3 := by omega
  have hb : b = 1 ∨ b = 2 ∨ b = 3 := by omega
  rcases ha with z | z | z <;> rcases hb with y | y | y <;> subst z <;> subst y <;> kernel_rfl
theorem menuFa_len (E : Addr) (a b : Int) : (menuFa E a b).length = 35 := rfl
def g__law_bad_fact (mg : Str → Option Value) (ds : List Dt) (d : Dt) : Prop := ∃ c a b : Int, ds = [.int c, eFr a b] ∧ atI (menuFa (cAt mg "PaintError") a b) (draw c 105 ((menuFa (cAt mg "PaintError") a b).length : Nat)) = some d
theorem ok__law_bad_fact (T : Txt K mg fa fd) : FnG P w K mg base CX0 2 (fa 32) (fd 32) ["cell", "plane"] (spD (g__law_bad_fact mg)) := by
  refine fn_D T.d__law_bad_fact.F sc__law_bad_fact (fun ds d h => by obtain ⟨_, _, _, rfl, _⟩ := h; rfl) (fun cdv Γ below s B H vs ds d Q E hg hr e ra hd ret => ?_)
  obtain ⟨c, a, b, rfl, hat⟩ := hd
  rcases ra with _ | ⟨r1, _ | ⟨r2, _ | _⟩⟩
  cases r1
  have hu := hr.units
  refine ⟨_, (pss_cons (ps_set (i := 2) sc__law_bad_fact.nd rfl (by first | exact Or.inl rfl | exact Or.inr rfl) (pe_lst (pa_cons (pe_tup (pa_cons pe_str (pa_cons (pe_ix (k_ix (K := K) rfl) (pv 1) pe_int (fun _ _ => rfl)) (pa_cons pe_int (pa_cons pe_int pa_nil))))) (pa_cons (pe_tup (pa_cons pe_str (pa_cons pe_int (pa_cons (pe_ix (k_ix (K := K) rfl) (pv 1) pe_int (fun _ _ => rfl)) (pa_cons pe_int pa_nil))))) (pa_cons (pe_tup (pa_cons pe_str (pa_cons (pe_ix (k_ix (K := K) rfl) (pv 1) pe_int (fun _ _ => rfl)) (pa_cons pe_int (pa_cons pe_int pa_nil))))) pa_nil))))) (pss_cons (ps_set (i := 2) sc__law_bad_fact.nd rfl (by first | exact Or.inl rfl | exact Or.inr rfl) (pe_op op_addA (pv 2) (pe_lst (pa_cons (pe_tup (pa_cons pe_str (pa_cons pe_int (pa_cons (pe_ix (k_ix (K := K) rfl) (pv 1) pe_int (fun _ _ => rfl)) (pa_cons pe_int pa_nil))))) (pa_cons (pe_tup (pa_cons pe_str (pa_cons (pe_un un_neg pe_int) (pa_cons pe_int (pa_cons pe_int pa_nil))))) (pa_cons (pe_tup (pa_cons pe_str (pa_cons pe_int (pa_cons (pe_un un_neg pe_int) (pa_cons pe_int pa_nil))))) (pa_cons (pe_tup (pa_cons pe_str (pa_cons pe_int (pa_cons pe_int (pa_cons pe_int pa_nil))))) pa_nil))))))) (pss_cons (ps_set (i := 2) sc__law_bad_fact.nd rfl (by first | exact Or.inl rfl | exact Or.inr rfl) (pe_op op_addA (pv 2) (pe_lst (pa_cons (pe_tup (pa_cons pe_str (pa_cons pe_int (pa_cons pe_int (pa_cons (pe_un un_neg pe_int) pa_nil))))) (pa_cons (pe_tup (pa_cons pe_str (pa_cons pe_int (pa_cons pe_int (pa_cons pe_bl pa_nil))))) (pa_cons (pe_tup (pa_cons pe_str (pa_cons pe_int (pa_cons pe_bl (pa_cons pe_int pa_nil))))) (pa_cons (pe_tup (pa_cons pe_str (pa_cons pe_int (pa_cons pe_int (pa_cons pe_int pa_nil))))) pa_nil))))))) (pss_cons (ps_set (i := 2) sc__law_bad_fact.nd rfl (by first | exact Or.inl rfl | exact Or.inr rfl) (pe_op op_addA (pv 2) (pe_lst (pa_cons (pe_tup (pa_cons pe_str (pa_cons pe_bl (pa_cons pe_int (pa_cons pe_int pa_nil))))) (pa_cons (pe_tup (pa_cons pe_str (pa_cons pe_int (pa_cons pe_int pa_nil)))) (pa_cons (pe_tup (pa_cons pe_str (pa_cons pe_int (pa_cons pe_int (pa_cons pe_int (pa_cons pe_int pa_nil)))))) (pa_cons (pe_lst (pa_cons pe_str (pa_cons pe_int (pa_cons pe_int (pa_cons pe_int pa_nil))))) pa_nil))))))) (pss_cons (ps_set (i := 2) sc__law_bad_fact.nd rfl (by first | exact Or.inl rfl | exact Or.inr rfl) (pe_op op_addA (pv 2) (pe_lst (pa_cons (pe_tup (pa_cons pe_int (pa_cons pe_int (pa_cons pe_int (pa_cons pe_int pa_nil))))) (pa_cons (pe_tup (pa_cons pe_str (pa_cons pe_int (pa_cons pe_int (pa_cons pe_int pa_nil))))) (pa_cons pe_non (pa_cons pe_str (pa_cons pe_int (pa_cons (pe_tup pa_nil) (pa_cons (pe_tup (pa_cons pe_str (pa_cons pe_int (pa_cons pe_int (pa_cons pe_int pa_nil))))) pa_nil)))))))))) (pss_cons (ps_set (i := 2) sc__law_bad_fact.nd rfl (by first | exact Or.inl rfl | exact Or.inr rfl) (pe_op op_addA (pv 2) (pe_lst (pa_cons (pe_tup (pa_cons pe_str (pa_cons pe_int (pa_cons pe_int (pa_cons pe_int pa_nil))))) (pa_cons (pe_tup (pa_cons pe_str (pa_cons pe_non (pa_cons pe_int (pa_cons pe_int pa_nil))))) (pa_cons (pe_tup (pa_cons pe_str (pa_cons pe_int (pa_cons pe_int (pa_cons pe_str pa_nil))))) (pa_cons (pe_tup (pa_cons pe_str (pa_cons pe_int (pa_cons (pe_tup (pa_cons pe_int pa_nil)) (pa_cons pe_int pa_nil))))) pa_nil))))))) (pss_cons (ps_set (i := 2) sc__law_bad_fact.nd rfl (by first | exact Or.inl rfl | exact Or.inr rfl) (pe_op op_addA (pv 2) (pe_lst (pa_cons (pe_exc1 PySem.F.excBase_ValueError T.e_PaintError.x T.e_PaintError.g T.e_PaintError.k rfl pe_str) (pa_cons (pe_tup (pa_cons pe_str (pa_cons pe_int (pa_cons pe_int (pa_cons (pe_exc1 PySem.F.excBase_ValueError T.e_PaintError.x T.e_PaintError.g T.e_PaintError.k rfl pe_str) pa_nil))))) (pa_cons (pe_tup (pa_cons (pe_lst (pa_cons pe_str pa_nil)) (pa_cons pe_int (pa_cons pe_int (pa_cons pe_int pa_nil))))) pa_nil)))))) (pss_cons (ps_set (i := 2) sc__law_bad_fact.nd rfl (by first | exact Or.inl rfl | exact Or.inr rfl) (pe_op op_addA (pv 2) (pe_lst (pa_cons (pe_tup (pa_cons pe_str (pa_cons pe_int (pa_cons pe_int (pa_cons (pe_op op_pow pe_int pe_int) pa_nil))))) (pa_cons (pe_tup (pa_cons pe_str (pa_cons (pe_un un_neg (pe_op op_pow pe_int pe_int)) (pa_cons pe_int (pa_cons pe_int pa_nil))))) (pa_cons (pe_tup (pa_cons pe_str (pa_cons (pe_op op_addA (pe_ix (k_ix (K := K) rfl) (pv 1) pe_int (fun _ _ => rfl)) pe_int) (pa_cons pe_int (pa_cons pe_int pa_nil))))) pa_nil)))))) (pss_cons (ps_set (i := 2) sc__law_bad_fact.nd rfl (by first | exact Or.inl rfl | exact Or.inr rfl) (pe_op op_addA (pv 2) (pe_lst (pa_cons (pe_tup (pa_cons pe_str (pa_cons (pe_op op_pow pe_int pe_int) (pa_cons pe_int (pa_cons pe_int pa_nil))))) (pa_cons (pe_tup (pa_cons pe_str (pa_cons pe_int (pa_cons (pe_un un_neg pe_int) (pa_cons pe_int pa_nil))))) (pa_cons (pe_tup (pa_cons pe_str (pa_cons pe_int (pa_cons (pe_op op_addA (pe_ix (k_ix (K := K) rfl) (pv 1) pe_int (fun _ _ => rfl)) pe_int) (pa_cons pe_int pa_nil))))) pa_nil)))))) (pss_one (ps_ret (pe_ix (k_ix (K := K) rfl) (pv 2) (pe_go (ok__law_draw T) hg (hr.mono (by decide)) rfl T.d__law_draw.at_ T.d__law_draw.F.kp (bn__law_draw T) pass0 (pa_cons (pv 0) (pa_cons pe_int (pa_cons (pe_callB (k_len (K := K) rfl) rfl T.n_len (by decide +kernel) (pa_cons (pv 2) pa_nil)) pa_nil)))) (fun _ _ => rfl))))))))))))), ?_⟩
  refine s_seq (s_asg e (by walk_at "u_ev") fun v1 B1 H1 n1 q1 => ?_)
  walk_at "u_n"
  have r2 := r2.mono n1.ext
  refine s_seq (s_asg n1.sub (by walk_at "u_ev") fun v2 B2 H2 n2 q2 => ?_)
  walk_at "u_n"
  have r2 := r2.mono n2.ext
  refine s_seq (s_asg n2.sub (by walk_at "u_ev") fun v3 B3 H3 n3 q3 => ?_)
  walk_at "u_n"
  have r2 := r2.mono n3.ext
  refine s_seq (s_asg n3.sub (by walk_at "u_ev") fun v4 B4 H4 n4 q4 => ?_)
  walk_at "u_n"
  have r2 := r2.mono n4.ext
  refine s_seq (s_asg n4.sub (by walk_at "u_ev") fun v5 B5 H5 n5 q5 => ?_)
  walk_at "u_n"
  have r2 := r2.mono n5.ext
  refine s_seq (s_asg n5.sub (by walk_at "u_ev") fun v6 B6 H6 n6 q6 => ?_)
  walk_at "u_n"
  have r2 := r2.mono n6.ext
  refine s_seq (s_asg n6.sub (by walk_at "u_ev") fun v7 B7 H7 n7 q7 => ?_)
  walk_at "u_n"
  have r2 := r2.mono n7.ext
  refine s_seq (s_asg n7.sub (by walk_at "u_ev") fun v8 B8 H8 n8 q8 => ?_)
  walk_at "u_n"
  have r2 := r2.mono n8.ext
  refine s_seq (s_asg (d := .lst (menuFa (cAt mg "PaintError") a b)) n8.sub (by walk_at "u_ev") fun v9 B9 H9 n9 q9 => ?_)
  walk_at "u_n"
  have r2 := r2.mono n9.ext
  exact s_retE n9.sub (ev_op (ev_v rfl q9) (ev_call (ea_cons (ev_v rfl (.int _)) (ea_cons ev_i (ea_cons (ev_cb (ea_cons (ev_v rfl q9) ea_nil) rl_lenL) ea_nil))) ⟨c, 105, _, rfl, by decide, by decide, by show (0 : Int) < ((35 : Nat) : Int); decide, rfl⟩) (rv_ixL hat)) rfl (fun v Bz Hz nz rv => ret v Bz Hz (((((((((n1.trans n2).trans n3).trans n4).trans n5).trans n6).trans n7).trans n8).trans n9).trans nz) rv)

abbrev f0 (s : Str) : Dt := .tup [.str s, .int 0, .int 0, .int 0]
def spoil (F : List Dt) (bf : Dt) (at_ : Int) : Dt := .lst ((F.take at_.toNat ++ [bf]) ++ F.drop (at_ + 1).toNat)
def menuRu (E : Addr) (F : List Dt) (sp : Dt) : List Dt := ([.tup F, .non, .str "facts", .int 5, .tup [], .bl true, .lst [.lst F], f0 "x"] ++ [.lst (List.replicate (7 : Int).toNat [f0 "x"]).flatten, .exc E, .lst (List.replicate (300 : Int).toNat [f0 "y"]).flatten]) ++ (List.range (20 : Int).toNat).map fun _ => sp
theorem okz_fas : ∀ fs : List Fa, okzAll (fs.map eFa) = true
  | [] => by simp [okzAll]
  | f :: fs => by rw [List.map_cons, okzAll, okz_fas fs, Dt.okz, okzAll, okzAll, okzAll, okzAll, okzAll, Dt.okz, Dt.okz, Dt.okz, Dt.okz] <;> simp
theorem menuRu_bad (E : Addr) {a b at_ : Int} {fs : List Fa} {bf : Dt} (hl : fs.length ≤ 6) (h1 : factD a b bf = false) (h2 : bf.okz = true) : ∀ d ∈ menuRu E (fs.map eFa) (spoil (fs.map eFa) bf at_), factsD a b d = false ∧ d.okz = true := fun d hd => by
  have hF := okz_fas fs
  have lF : (fs.map eFa).length ≤ 6 := by rw [List.length_map]; exact hl
  generalize fs.map eFa = F at *
  rcases List.mem_append.mp hd with hd | hd
  · rcases List.mem_append.mp hd with hd | hd
    · simp only [List.mem_cons, List.not_mem_nil, or_false] at hd
      rcases hd with z | z | z | z | z | z | z | z <;> subst z
      · exact ⟨rfl, by rw [Dt.okz, hF, decide_eq_true (by omega)]; rfl⟩
      · exact ⟨rfl, by simp [Dt.okz]⟩
      · exact ⟨rfl, by simp [Dt.okz]⟩
      · exact ⟨rfl, by simp [Dt.okz]⟩
      · exact ⟨rfl, by simp [Dt.okz, okzAll]⟩
      · exact ⟨rfl, by simp [Dt.okz]⟩
      · exact ⟨rfl, by rw [Dt.okz, okzAll, okzAll, Dt.okz, hF, decide_eq_true (show F.length ≤ 1000 by omega)]; rfl⟩
      · exact ⟨rfl, by simp [Dt.okz, okzAll]⟩
    · simp only [List.mem_cons, List.not_mem_nil, or_false] at hd
      rcases hd with z | z | z <;> subst z
      · exact ⟨rfl, by decide +kernel⟩
      · exact ⟨rfl, by simp [Dt.okz]⟩
      · refine ⟨?_, by decide +kernel⟩
        show (decide ((((List.replicate (300 : Int).toNat [f0 "y"]).flatten.length : Nat) : Int) ≤ 6) && (List.replicate (300 : Int).toNat [f0 "y"]).flatten.all (factD a b)) = false
        exact Bool.and_eq_false_iff.mpr (.inl (by decide +kernel))
  · obtain ⟨_, _, rfl⟩ := List.mem_map.mp hd
    refine ⟨?_, ?_⟩
    · show (decide _ && List.all _ _) = false
      have : ((F.take at_.toNat ++ [bf]) ++ F.drop (at_ + 1).toNat).all (factD a b) = false := by
        rw [List.all_eq_false]
        exact ⟨bf, by simp, by rw [h1]; exact Bool.false_ne_true⟩
      rw [this, Bool.and_false]
    · unfold spoil
      rw [Dt.okz, okz_app, okz_app, okz_sub (fun x hm => List.mem_of_mem_take hm) hF, okz_sub (fun x hm => List.mem_of_mem_drop hm) hF, okzAll, okzAll, h2]
      have : ((F.take at_.toNat ++ [bf]) ++ F.drop (at_ + 1).toNat).length ≤ 1000 := by
        rw [List.length_append, List.length_append, List.length_take, List.length_drop]; simp; omega
      rw [decide_eq_true this]; rfl
theorem menuRu_len (E : Addr) (F : List Dt) (sp : Dt) : (menuRu E F sp).length = 31 := rfl
def g__law_bad_rules (mg : Str → Option Value) (ds : List Dt) (d : Dt) : Prop := ∃ (c a b : Int) (fs : List Fa) (bf : Dt), ds = [.int c, eFr a b, eFas fs] ∧ fs.length ≤ 6 ∧ atI (menuFa (cAt mg "PaintError") a b) (draw c 105 ((menuFa (cAt mg "PaintError") a b).length : Nat)) = some bf ∧
  atI (menuRu (cAt mg "PaintError") (fs.map eFa) (spoil (fs.map eFa) bf (draw c 106 ((fs.length : Nat) + 1)))) (draw c 107 (31 : Nat)) = some d
theorem ok__law_bad_rules (T : Txt K mg fa fd) : FnG P w K mg base CX0 3 (fa 33) (fd 33) ["cell", "plane", "rules"] (spD (g__law_bad_rules mg)) := by
  refine fn_D T.d__law_bad_rules.F sc__law_bad_rules (fun ds d h => by obtain ⟨_, _, _, _, _, rfl, _⟩ := h; rfl) (fun cdv Γ below s B H vs ds d Q E hg hr e ra hd ret => ?_)
  obtain ⟨c, a, b, fs, bf, rfl, hl, hb, hat⟩ := hd
  rcases ra with _ | ⟨r1, _ | ⟨r2, _ | ⟨r3, _ | _⟩⟩⟩
  cases r1
  have hu := hr.units
  have d6 := draw_lt (c := c) (k := 106) (l := (fs.length : Nat) + 1) (by omega)
  refine ⟨_, (pss_cons (ps_set (i := 3) sc__law_bad_rules.nd rfl (by first | exact Or.inl rfl | exact Or.inr rfl) (pe_go (ok__law_draw T) hg (hr.mono (by decide)) rfl T.d__law_draw.at_ T.d__law_draw.F.kp (bn__law_draw T) pass0 (pa_cons (pv 0) (pa_cons pe_int (pa_cons (pe_op op_addA (pe_callB (k_len (K := K) rfl) rfl T.n_len (by decide +kernel) (pa_cons (pv 2) pa_nil)) pe_int) pa_nil))))) (pss_cons (ps_set (i := 4) sc__law_bad_rules.nd rfl (by first | exact Or.inl rfl | exact Or.inr rfl) (pe_lst (pa_cons (pe_callTy (k_tuple (K := K) rfl) rfl T.n_tuple (by decide +kernel) (pa_cons (pv 2) pa_nil)) (pa_cons pe_non (pa_cons pe_str (pa_cons pe_int (pa_cons (pe_tup pa_nil) (pa_cons pe_bl (pa_cons (pe_lst (pa_cons (pv 2) pa_nil)) (pa_cons (pe_tup (pa_cons pe_str (pa_cons pe_int (pa_cons pe_int (pa_cons pe_int pa_nil))))) pa_nil)))))))))) (pss_cons (ps_set (i := 4) sc__law_bad_rules.nd rfl (by first | exact Or.inl rfl | exact Or.inr rfl) (pe_op op_addA (pv 4) (pe_lst (pa_cons (pe_op op_rep (pe_lst (pa_cons (pe_tup (pa_cons pe_str (pa_cons pe_int (pa_cons pe_int (pa_cons pe_int pa_nil))))) pa_nil)) pe_int) (pa_cons (pe_exc1 PySem.F.excBase_ValueError T.e_PaintError.x T.e_PaintError.g T.e_PaintError.k rfl pe_str) (pa_cons (pe_op op_rep (pe_lst (pa_cons (pe_tup (pa_cons pe_str (pa_cons pe_int (pa_cons pe_int (pa_cons pe_int pa_nil))))) pa_nil)) pe_int) pa_nil)))))) (pss_cons (ps_set (i := 5) sc__law_bad_rules.nd rfl (by first | exact Or.inl rfl | exact Or.inr rfl) (pe_op op_addA (pe_op op_addA (pe_slice (k_slice (K := K) rfl) (pv 2) po_none (po_some (pv 3))) (pe_lst (pa_cons (pe_go (ok__law_bad_fact T) hg (hr.mono (by decide)) rfl T.d__law_bad_fact.at_ T.d__law_bad_fact.F.kp (bn__law_bad_fact T) pass0 (pa_cons (pv 0) (pa_cons (pv 1) pa_nil))) pa_nil))) (pe_slice (k_slice (K := K) rfl) (pv 2) (po_some (pe_op op_addA (pv 3) pe_int)) po_none))) (pss_cons (ps_set (i := 4) sc__law_bad_rules.nd rfl (by first | exact Or.inl rfl | exact Or.inr rfl) (pe_op op_addA (pv 4) (pe_lc (own := [("k", 6)]) (g := (gName 6)) (tt := tYes) rfl sc__law_bad_rules.nd (pi_range1 rfl T.n_range (pa_cons pe_int pa_nil)) (blkOk_by (N := ["cell", "plane", "rules", "at", "menu", "spoiled", "k"]) (sc := defScope s__law_bad_rules) (by decide +kernel)) (fun _ _ _ _ _ => (pg_name (i := 6) sc__law_bad_rules.nd rfl (by first | exact Or.inl rfl | exact Or.inr rfl))) (fun _ _ _ _ _ => pts_nil) (fun _ _ _ _ _ => (pv 5))))) (pss_one (ps_ret (pe_ix (k_ix (K := K) rfl) (pv 4) (pe_go (ok__law_draw T) hg (hr.mono (by decide)) rfl T.d__law_draw.at_ T.d__law_draw.F.kp (bn__law_draw T) pass0 (pa_cons (pv 0) (pa_cons pe_int (pa_cons (pe_callB (k_len (K := K) rfl) rfl T.n_len (by decide +kernel) (pa_cons (pv 4) pa_nil)) pa_nil)))) (fun _ _ => rfl))))))))), ?_⟩
  refine s_seq (s_asg (d := .int (draw c 106 ((fs.length : Nat) + 1))) e (ev_call (ea_cons (ev_v rfl (.int _)) (ea_cons ev_i (ea_cons (ev_op (EvR.is (ev_cb (ea_cons (ev_v rfl r3) ea_nil) rl_lenL) (by rw [List.length_map])) ev_i (rv_inl rv_add)) ea_nil))) ⟨c, 106, _, rfl, by decide, by decide, by omega, rfl⟩) fun v3 B1 H1 n1 q1 => ?_)
  cases q1
  generalize hat6 : draw c 106 ((fs.length : Nat) + 1) = at_ at hat d6
  walk_at "u_n"
  have r3 := r3.mono n1.ext
  have r2 := r2.mono n1.ext
  refine s_seq (s_asg n1.sub (by walk_at "u_ev") fun v4 B2 H2 n2 q2 => ?_)
  walk_at "u_n"
  have r3 := r3.mono n2.ext
  have r2 := r2.mono n2.ext
  refine s_seq (s_asg n2.sub (by walk_at "u_ev") fun v4 B3 H3 n3 q3 => ?_)
  walk_at "u_n"
  have r3 := r3.mono n3.ext
  have r2 := r2.mono n3.ext
  have tl : ((fs.map eFa).take at_.toNat).length ≤ 6 := by rw [List.length_take, List.length_map]; omega
  have dl : ((fs.map eFa).drop (at_ + 1).toNat).length ≤ 6 := by rw [List.length_drop, List.length_map]; omega
  refine s_seq (s_asg (d := spoil (fs.map eFa) bf at_) n3.sub (ev_op (ev_op (ev_slTo (ev_v rfl r3) (ev_v rfl (.int _)) d6.1) (ev_lst (ea_cons (ev_call (ea_cons (ev_v rfl (.int _)) (ea_cons (ev_v rfl r2) ea_nil)) ⟨c, a, b, rfl, hb⟩) ea_nil) (by simp)) (rv_inr (rv_cat (by simp; omega)))) (ev_slFr (ev_v rfl r3) (ev_op (ev_v rfl (.int _)) ev_i (rv_inl rv_add)) (by omega)) (rv_inr (rv_cat (by rw [List.length_append]; simp only [List.length_cons, List.length_nil]; omega)))) fun v5 B4 H4 n4 q4 => ?_)
  walk_at "u_n"
  refine s_seq (s_asg (d := .lst (menuRu (cAt mg "PaintError") (fs.map eFa) (spoil (fs.map eFa) bf at_))) n4.sub (ev_op (ev_v rfl (q3.mono n4.ext)) (EvL.toR (el_lcR1 (n := 20) (f := fun _ => spoil (fs.map eFa) bf at_) (ea_cons ev_i ea_nil) ⟨by decide, by decide⟩ (fun _ => rfl) (fun k Bk hk hB => ev_v rfl (q4.mono hB)))) (rv_inr (rv_cat (by show (31 : Nat) ≤ 100000; decide)))) fun v6 B5 H5 n5 q5 => ?_)
  walk_at "u_n"
  exact s_retE n5.sub (ev_op (ev_v rfl q5) (ev_call (ea_cons (ev_v rfl (.int _)) (ea_cons ev_i (ea_cons (EvR.is (ev_cb (ea_cons (ev_v rfl q5) ea_nil) rl_lenL) (by rw [menuRu_len])) ea_nil))) ⟨c, 107, _, rfl, by decide, by decide, by decide, rfl⟩) (rv_ixL hat)) rfl (fun v Bz Hz nz rv => ret v Bz Hz (((((n1.trans n2).trans n3).trans n4).trans n5).trans nz) rv)

def g__law_refused (ds : List Dt) (d : Dt) : Prop := ∃ f p r : Dt, ds = [f, p, r] ∧ frameD f = false ∧ p.okz = true ∧ r.okz = true ∧ d = .bl true
theorem frames_eq (n : Nat) (h : n = 2) : PyData.eqv (Dt.lst (List.replicate n (.str "frame"))).py (Dt.lst [.str "frame", .str "frame"]).py = true := by subst h; decide +kernel
theorem ok__law_refused (T : Txt K mg fa fd) : FnG P w K mg base CX0 5 (fa 35) (fd 35) ["plane", "point", "rules"] (spD g__law_refused) := by
  refine fn_D T.d__law_refused.F sc__law_refused (fun ds d h => by obtain ⟨_, _, _, rfl, _⟩ := h; rfl) (fun cdv Γ below s B H vs ds d Q E hg hr e ra hd ret => ?_)
  obtain ⟨f, p0, r0, rfl, hf, hp, hq, rfl⟩ := hd
  rcases ra with _ | ⟨r1, _ | ⟨r2, _ | ⟨r3, _ | _⟩⟩⟩
  have hu := hr.units
  refine ⟨_, (pss_cons (ps_set (i := 3) sc__law_refused.nd rfl (by first | exact Or.inl rfl | exact Or.inr rfl) (pe_lst pa_nil)) (pss_cons (ps_for PassesOwn.never rfl (pi_range1 rfl T.n_range (pa_cons pe_int pa_nil)) (pg_name (i := 4) sc__law_refused.nd rfl (by first | exact Or.inl rfl | exact Or.inr rfl)) (pss_one (ps_try_only (Wout := fun _ _ _ _ => False) rfl rfl ⟨rfl, by decide, .inl T.p_InvalidFrame.g⟩ takesN (fun W pn xe tk _ => (pss_one (ps_expr (k_bm (K := K) rfl PySem.F.plainAttrs_list PySem.F.slot_list_append PySem.F.type_list_append mt_append (pv 3) (pa_cons (pe_ifExp (pt_cmpR (k_eq (K := K) rfl hu) (pv 4) pe_int (nomark _)) (pe_goS (okG_is_setting T) hg (hr.mono (by decide)) rfl T.d_is_setting.at_ T.d_is_setting.F.kp (bn_is_setting T) (fun σ => passAt tk σ) (pa_cons (pv 0) (pa_cons (pv 1) pa_nil))) (pe_goS (okG_is_facts T) hg (hr.mono (by decide)) rfl T.d_is_facts.at_ T.d_is_facts.F.kp (bn_is_facts T) (fun σ => passAt tk σ) (pa_cons (pv 0) (pa_cons (pv 2) pa_nil)))) pa_nil))))) (fun a oe cls d pn _ _ => (pss_one (ps_expr (k_bm (K := K) rfl PySem.F.plainAttrs_list PySem.F.slot_list_append PySem.F.type_list_append mt_append (pv 3) (pa_cons pe_str pa_nil)))))))) (pss_one (ps_ret (pe_cmpR (k_eq (K := K) rfl hu) (pv 3) (pe_lst (pa_cons pe_str (pa_cons pe_str pa_nil))) (nomark _)))))), ?_⟩
  refine s_seq (s_asgL (ds := []) e (el_lst ea_nil (by simp)) fun p us B1 H1 n1 o1 ru => ?_)
  cases ru
  walk_at "u_n"
  have s1 := r1.mono n1.ext
  have s2 := r2.mono n1.ext
  have s3 := r3.mono n1.ext
  refine s_seq (s_forR (n := 2) n1.sub (ea_cons ev_i ea_nil) ⟨by decide, by decide⟩ (fun i σ' H' => ∃ (v0 v1 v2 : V) (w4 : Option V), σ' = [some v0, some v1, some v2, some (.ref p), w4] ∧ R B1 v0 f ∧ R B1 v1 p0 ∧ R B1 v2 r0 ∧ New B H B1 H' ∧ Own H B1 H' p ((List.replicate i (.str "frame")))) ?_ ?_ ?_)
  · intro H2 u2
    exact ⟨_, _, _, _, rfl, s1, s2, s3, n1.trans u2.new, o1.up u2.heap⟩
  · rintro i σ' H' hi ⟨v0, v1, v2, w4, rfl, q1, q2, q3, N', o⟩
    have hi : i < 2 := by omega
    walk_at "u_n"


    refine (show tDrop (tBM K "list" rAppend (tVar 3) (tCons (tIf _ (tCallS _ _ _) (tCallS _ _ _)) tNil)) _ _ _ from ⟨_, rfl, .inl ⟨rfl, _, .inl (.inl o.h)⟩, ?_⟩)
    refine (show tIf _ (tCallS _ _ (tCons (tVar 0) (tCons (tVar 1) tNil))) (tCallS _ _ (tCons (tVar 0) (tCons (tVar 2) tNil))) _ _ _ from ?_)
    have cnd : EvC (tTest (tOp (rOr rEq (rEqD K)) (tVar 4) (tC (.int 0)))) ([some v0, some v1, some v2, some (.ref p), some (.int (i : Int))] : L2.St) B1 (decide ((i : Int) = 0)) := ec_t (ev_op (ev_v rfl (.int _)) ev_i (rv_inl rv_eqI))
    refine cnd H' N'.sub _ fun H3 e3 => ?_

    have ev1 : EvRA (tCons (tVar 0) (tCons (tVar 1) tNil)) ([some v0, some v1, some v2, some (.ref p), some (.int (i : Int))] : L2.St) B1 [f, p0] := ea_cons (ev_v rfl q1) (ea_cons (ev_v rfl q2) ea_nil)
    have ev2 : EvRA (tCons (tVar 0) (tCons (tVar 2) tNil)) ([some v0, some v1, some v2, some (.ref p), some (.int (i : Int))] : L2.St) B1 [f, r0] := ea_cons (ev_v rfl q1) (ea_cons (ev_v rfl q3) ea_nil)

    split
    · refine ev1 H3 (N'.sub.trans e3) _ fun vs B4 H4 n4 ra4 => ⟨B4, _, none, n4.sub, ra4, ⟨f, p0, rfl, hp, (onFrame_no hf).symm⟩, (fun b hb => nomatch hb), fun _ H5 e5 => ?_⟩
      refine ⟨true, PySem.W.exm_ref T.p_InvalidFrame.b T.p_InvalidFrame.d T.p_InvalidFrame.t T.s_InvalidFrame_InvalidFrame, fun _ x hx => ?_, fun z => nomatch z⟩
      have up : Ex H' H5 := (e3.trans n4.heap).trans e5
      refine s_app (d := .str "frame") (N'.sub.trans up) (o.up up) rfl ev_s (by rw [List.length_replicate]; omega) (fun v B6 H6 n6 o6 rv => ?_)
      cases rv
      have N6 : New B H B1 H6 := N'.trans (New.grow ((N'.sub.trans up).trans n6.heap) (up.trans n6.heap) N'.sub)
      refine ⟨_, _, _, _, rfl, q1, q2, q3, N6.put ⟨o.h0, o.b, o6.h⟩, o.h0, o.b, ?_⟩
      rw [upd_same, List.replicate_succ']
    · refine ev2 H3 (N'.sub.trans e3) _ fun vs B4 H4 n4 ra4 => ⟨B4, _, none, n4.sub, ra4, ⟨f, r0, rfl, hq, (onFrame_no hf).symm⟩, (fun b hb => nomatch hb), fun _ H5 e5 => ?_⟩
      refine ⟨true, PySem.W.exm_ref T.p_InvalidFrame.b T.p_InvalidFrame.d T.p_InvalidFrame.t T.s_InvalidFrame_InvalidFrame, fun _ x hx => ?_, fun z => nomatch z⟩
      have up : Ex H' H5 := (e3.trans n4.heap).trans e5
      refine s_app (d := .str "frame") (N'.sub.trans up) (o.up up) rfl ev_s (by rw [List.length_replicate]; omega) (fun v B6 H6 n6 o6 rv => ?_)
      cases rv
      have N6 : New B H B1 H6 := N'.trans (New.grow ((N'.sub.trans up).trans n6.heap) (up.trans n6.heap) N'.sub)
      refine ⟨_, _, _, _, rfl, q1, q2, q3, N6.put ⟨o.h0, o.b, o6.h⟩, o.h0, o.b, ?_⟩
      rw [upd_same, List.replicate_succ']
  · rintro σ' H' ⟨v0, v1, v2, w4, rfl, q1, q2, q3, N', o⟩
    walk_at "u_n"
    have rl : RA B1 (List.replicate (2 : Int).toNat (.str "frame")) (List.replicate (2 : Int).toNat (.str "frame")) := .cons (.str _) (.cons (.str _) .nil)
    refine s_retE (N'.give o).sub (ev_op (ev_v rfl (o.data rl)) (ev_lst (ea_cons ev_s (ea_cons ev_s ea_nil)) (by simp)) (rv_inr (rv_eqD (by decide +kernel) (by decide +kernel)))) (by rw [frames_eq (2 : Int).toNat rfl]) (fun v Bz Hz nz rv => ret v Bz Hz ((N'.give o).trans nz) rv)

theorem frameD_ok {a b : Int} (h : FrOk a b) : frameD (eFr a b) = true := by
  obtain ⟨a1, a3, b1, b3⟩ := h
  show ((decide (1 ≤ a) && decide (a ≤ 3)) && (decide (1 ≤ b) && decide (b ≤ 3))) = true
  rw [decide_eq_true a1, decide_eq_true a3, decide_eq_true b1, decide_eq_true b3]; rfl
theorem row_ok {p : List Int} {n : Int} (h : (p.length : Int) = n) : rowD (.lst (p.map Dt.int)) n = true := by
  show (decide (((p.map Dt.int).length : Int) = n) && (p.map Dt.int).all isI) = true
  rw [decide_eq_true (by rw [List.length_map]; exact h), Bool.true_and, List.all_eq_true]
  intro d hd
  obtain ⟨x, _, rfl⟩ := List.mem_map.mp hd
  rfl
theorem set_ok {a b : Int} {p q : List Int} (h : SetOk a b p q) : settingD a b (eSet p q) = true := by
  show (rowD (.lst (p.map Dt.int)) a && rowD (.lst (q.map Dt.int)) b) = true
  rw [row_ok h.1, row_ok h.2.1]; rfl
theorem factD_ok {a b : Int} {f : Fa} (h : FaOk a b f) : factD a b (eFa f) = true := by
  obtain ⟨i0, i1, j0, j1, l0, l1⟩ := h
  obtain ⟨ax, i, j, l⟩ := f
  cases ax with
  | true =>
    have i1 : i < a := i1
    have j1 : j < a := j1
    show (true && ((decide (0 ≤ i) && decide (i ≤ a - 1)) && ((decide (0 ≤ j) && decide (j ≤ a - 1)) && (decide (-6 ≤ l) && decide (l ≤ 6))))) = true
    rw [decide_eq_true i0, decide_eq_true j0, decide_eq_true l0, decide_eq_true l1, decide_eq_true (show i ≤ a - 1 by omega), decide_eq_true (show j ≤ a - 1 by omega)]; rfl
  | false =>
    have i1 : i < b := i1
    have j1 : j < b := j1
    show (true && ((decide (0 ≤ i) && decide (i ≤ b - 1)) && ((decide (0 ≤ j) && decide (j ≤ b - 1)) && (decide (-6 ≤ l) && decide (l ≤ 6))))) = true
    rw [decide_eq_true i0, decide_eq_true j0, decide_eq_true l0, decide_eq_true l1, decide_eq_true (show i ≤ b - 1 by omega), decide_eq_true (show j ≤ b - 1 by omega)]; rfl
theorem facts_ok {a b : Int} {fs : List Fa} (h : FasOk a b fs) : factsD a b (eFas fs) = true := by
  show (decide (((fs.map eFa).length : Int) ≤ 6) && (fs.map eFa).all (factD a b)) = true
  rw [decide_eq_true (by rw [List.length_map]; have := h.2.1; omega), Bool.true_and, List.all_eq_true]
  intro d hd
  obtain ⟨f, hf, rfl⟩ := List.mem_map.mp hd
  exact factD_ok (h.2.2 f hf)
theorem okz_ints : ∀ p : List Int, okzAll (p.map Dt.int) = true
  | [] => by rw [List.map_nil, okzAll]
  | x :: p => by rw [List.map_cons, okzAll, okz_ints p, Dt.okz] <;> simp
theorem okz_set {p q : List Int} (hp : p.length ≤ 1000) (hq : q.length ≤ 1000) : (eSet p q).okz = true := okz_t2 (okz_l (okz_ints p) (by rw [List.length_map]; exact hp)) (okz_l (okz_ints q) (by rw [List.length_map]; exact hq))
theorem okz_facts {fs : List Fa} (h : fs.length ≤ 1000) : (eFas fs).okz = true := okz_l (okz_fas fs) (by rw [List.length_map]; exact h)
theorem gset {a b : Int} {v : Dt} {r : Bool} (hf : FrOk a b) (hz : v.okz = true) (h : settingD a b v = r) : gG_is_setting [eFr a b, v] (some r) := ⟨eFr a b, v, rfl, hz, by rw [onFrame_yes (frameD_ok hf), h]⟩
theorem gfac {a b : Int} {v : Dt} {r : Bool} (hf : FrOk a b) (hz : v.okz = true) (h : factsD a b v = r) : gG_is_facts [eFr a b, v] (some r) := ⟨eFr a b, v, rfl, hz, by rw [onFrame_yes (frameD_ok hf), h]⟩
theorem fit_pair2 {fs : List Fa} {p q : List Int} {a b : Int} (ha : a ≤ 100) (hb : b ≤ 100) (hf : ∀ f ∈ fs, FaOk a b f) (lf : fs.length ≤ 1000) (hp : ∀ n ∈ p, n.natAbs < 10 ^ 60) (hq : ∀ n ∈ q, n.natAbs < 10 ^ 60) (lp : p.length ≤ 1000) (lq : q.length ≤ 1000) : Fit (.lst [eSet p q, eFas fs]) := by
  obtain ⟨h1, h2, h3⟩ := fitAll_fas ha hb fs hf
  have s := fit_eSet hp hq lp lq
  have s3 : (eSet p q).dep = 2 := by rw [Dt.dep, depAll, depAll, depAll, Dt.dep, Dt.dep, depAll_ints, depAll_ints]; rfl
  have s4 : (eSet p q).wt = p.length + q.length + 3 := by rw [Dt.wt, wtAll, wtAll, wtAll, Dt.wt, Dt.wt, wtAll_ints, wtAll_ints]; omega
  refine ⟨?_, ?_, ?_⟩
  · rw [Dt.fit, fitAll, fitAll, fitAll, s.fit, Dt.fit, h1]; rfl
  · rw [Dt.wt, wtAll, wtAll, wtAll, s4, Dt.wt, h2]; omega
  · rw [Dt.dep, depAll, depAll, depAll, s3, Dt.dep]; omega
theorem fit_b6 : Fit (.lst [.bl true, .bl true, .bl true, .bl true, .bl true, .bl true]) := ⟨by simp [Dt.fit, fitAll], by simp [Dt.wt, wtAll], by simp [Dt.dep, depAll]⟩
theorem fit_b4 : Fit (.lst [.bl false, .bl false, .bl false, .bl false]) := ⟨by simp [Dt.fit, fitAll], by simp [Dt.wt, wtAll], by simp [Dt.dep, depAll]⟩
def g__law_right (ds : List Dt) (d : Dt) : Prop := ∃ c : Int, ds = [.int c] ∧ d = .bl true
theorem ok__law_right (T : Txt K mg fa fd) : FnG P w K mg base CX0 7 (fa 36) (fd 36) ["cell"] (spD g__law_right) := by
  refine fn_D T.d__law_right.F sc__law_right (fun ds d h => by obtain ⟨_, rfl, _⟩ := h; rfl) (fun cdv Γ below s B H vs ds d Q E hg hr e ra hd ret => ?_)
  obtain ⟨c, rfl, rfl⟩ := hd
  rcases ra with _ | ⟨r1, _ | _⟩
  cases r1
  have hu := hr.units
  have hf := frOk c
  have hp0 : (pt0 c).length = (fr0 c).toNat := vals_len _ _ _
  have hq0 : (pt1 c).length = (fr1 c).toNat := vals_len _ _ _
  have ok : SetOk (fr0 c) (fr1 c) (pt0 c) (pt1 c) := ⟨by omega, by omega, hf⟩
  have lp : ∀ x ∈ pt0 c, x.natAbs < 10 ^ 33 := vals_lt _ _ _
  have lq : ∀ x ∈ pt1 c, x.natAbs < 10 ^ 33 := vals_lt _ _ _
  have hR := rules_ok c
  refine ⟨_, (pss_cons (ps_set (i := 1) sc__law_right.nd rfl (by first | exact Or.inl rfl | exact Or.inr rfl) (pe_go (ok__law_frame T) hg (hr.mono (by decide)) rfl T.d__law_frame.at_ T.d__law_frame.F.kp (bn__law_frame T) pass0 (pa_cons (pv 0) pa_nil))) (pss_cons (ps_par (i := 2) (j := 3) rfl sc__law_right.nd rfl rfl (by decide) rfl rfl (pa_cons (pe_go (ok__law_setting T) hg (hr.mono (by decide)) rfl T.d__law_setting.at_ T.d__law_setting.F.kp (bn__law_setting T) pass0 (pa_cons (pv 0) (pa_cons (pv 1) pa_nil))) (pa_cons (pe_go (ok__law_rules T) hg (hr.mono (by decide)) rfl T.d__law_rules.at_ T.d__law_rules.F.kp (bn__law_rules T) pass0 (pa_cons (pv 0) (pa_cons (pv 1) pa_nil))) pa_nil)) rfl) (pss_cons (ps_set (i := 4) sc__law_right.nd rfl (by first | exact Or.inl rfl | exact Or.inr rfl) (pe_callB (c_repr hg hu) rfl T.n_repr (by decide +kernel) (pa_cons (pe_lst (pa_cons (pv 2) (pa_cons (pv 3) pa_nil))) pa_nil))) (pss_cons (ps_set (i := 5) sc__law_right.nd rfl (by first | exact Or.inl rfl | exact Or.inr rfl) (pe_lst (pa_cons (pe_go (okG_is_setting T) hg (hr.mono (by decide)) rfl T.d_is_setting.at_ T.d_is_setting.F.kp (bn_is_setting T) passF (pa_cons (pv 1) (pa_cons (pv 2) pa_nil))) (pa_cons (pe_goN (okG_is_setting T) hg (hr.mono (by decide)) rfl T.d_is_setting.at_ T.d_is_setting.F.kp (kb_is_setting_0 T) passF (pk_cons (pv 2) (pk_cons (pv 1) pk_nil))) (pa_cons (pe_go (okG_is_setting T) hg (hr.mono (by decide)) rfl T.d_is_setting.at_ T.d_is_setting.F.kp (bn_is_setting T) passF (pa_cons (pv 1) (pa_cons (pe_go (ok_plain T) hg (hr.mono (by decide)) rfl T.d_plain.at_ T.d_plain.F.kp (bn_plain T) pass0 (pa_cons (pv 1) (pa_cons (pv 2) pa_nil))) pa_nil))) pa_nil))))) (pss_cons (ps_set (i := 5) sc__law_right.nd rfl (by first | exact Or.inl rfl | exact Or.inr rfl) (pe_op op_addA (pv 5) (pe_lst (pa_cons (pe_go (okG_is_facts T) hg (hr.mono (by decide)) rfl T.d_is_facts.at_ T.d_is_facts.F.kp (bn_is_facts T) passF (pa_cons (pv 1) (pa_cons (pv 3) pa_nil))) (pa_cons (pe_go (okG_is_facts T) hg (hr.mono (by decide)) rfl T.d_is_facts.at_ T.d_is_facts.F.kp (bn_is_facts T) passF (pa_cons (pv 1) (pa_cons (pe_lst pa_nil) pa_nil))) (pa_cons (pe_goN (okG_is_facts T) hg (hr.mono (by decide)) rfl T.d_is_facts.at_ T.d_is_facts.F.kp (kb_is_facts_0 T) passF (pk_cons (pv 3) (pk_cons (pv 1) pk_nil))) pa_nil)))))) (pss_cons (ps_if (pt_cmpR (k_ne (K := K) rfl hu) (pe_callB (c_repr hg hu) rfl T.n_repr (by decide +kernel) (pa_cons (pv 5) pa_nil)) (pe_callB (c_repr hg hu) rfl T.n_repr (by decide +kernel) (pa_cons (pe_lst (pa_cons pe_bl (pa_cons pe_bl (pa_cons pe_bl (pa_cons pe_bl (pa_cons pe_bl (pa_cons pe_bl pa_nil))))))) pa_nil)) (nomark _)) (pss_one (ps_ret pe_bl)) pss_nil) (pss_cons (ps_set (i := 5) sc__law_right.nd rfl (by first | exact Or.inl rfl | exact Or.inr rfl) (pe_lst (pa_cons (pe_go (okG_is_setting T) hg (hr.mono (by decide)) rfl T.d_is_setting.at_ T.d_is_setting.F.kp (bn_is_setting T) passF (pa_cons (pv 1) (pa_cons (pe_go (ok__law_bad_setting T) hg (hr.mono (by decide)) rfl T.d__law_bad_setting.at_ T.d__law_bad_setting.F.kp (bn__law_bad_setting T) pass0 (pa_cons (pv 0) (pa_cons (pv 1) (pa_cons (pv 2) pa_nil)))) pa_nil))) (pa_cons (pe_go (okG_is_setting T) hg (hr.mono (by decide)) rfl T.d_is_setting.at_ T.d_is_setting.F.kp (bn_is_setting T) passF (pa_cons (pv 1) (pa_cons (pv 3) pa_nil))) pa_nil)))) (pss_cons (ps_set (i := 5) sc__law_right.nd rfl (by first | exact Or.inl rfl | exact Or.inr rfl) (pe_op op_addA (pv 5) (pe_lst (pa_cons (pe_go (okG_is_facts T) hg (hr.mono (by decide)) rfl T.d_is_facts.at_ T.d_is_facts.F.kp (bn_is_facts T) passF (pa_cons (pv 1) (pa_cons (pe_go (ok__law_bad_rules T) hg (hr.mono (by decide)) rfl T.d__law_bad_rules.at_ T.d__law_bad_rules.F.kp (bn__law_bad_rules T) pass0 (pa_cons (pv 0) (pa_cons (pv 1) (pa_cons (pv 3) pa_nil)))) pa_nil))) (pa_cons (pe_go (okG_is_facts T) hg (hr.mono (by decide)) rfl T.d_is_facts.at_ T.d_is_facts.F.kp (bn_is_facts T) passF (pa_cons (pv 1) (pa_cons (pv 2) pa_nil))) pa_nil))))) (pss_cons (ps_if (pt_cmpR (k_ne (K := K) rfl hu) (pe_callB (c_repr hg hu) rfl T.n_repr (by decide +kernel) (pa_cons (pv 5) pa_nil)) (pe_callB (c_repr hg hu) rfl T.n_repr (by decide +kernel) (pa_cons (pe_lst (pa_cons pe_bl (pa_cons pe_bl (pa_cons pe_bl (pa_cons pe_bl pa_nil))))) pa_nil)) (nomark _)) (pss_one (ps_ret pe_bl)) pss_nil) (pss_cons (ps_set (i := 6) sc__law_right.nd rfl (by first | exact Or.inl rfl | exact Or.inr rfl) (pe_go (ok__law_bad_frame T) hg (hr.mono (by decide)) rfl T.d__law_bad_frame.at_ T.d__law_bad_frame.F.kp (bn__law_bad_frame T) pass0 (pa_cons (pv 0) pa_nil))) (pss_cons (ps_if (PW.pt (pw_or (pt_not (pt_val (pe_go (ok__law_refused T) hg (hr.mono (by decide)) rfl T.d__law_refused.at_ T.d__law_refused.F.kp (bn__law_refused T) pass0 (pa_cons (pv 6) (pa_cons (pv 2) (pa_cons (pv 3) pa_nil)))))) (pw_or1 (pt_not (pt_val (pe_go (ok__law_refused T) hg (hr.mono (by decide)) rfl T.d__law_refused.at_ T.d__law_refused.F.kp (bn__law_refused T) pass0 (pa_cons (pv 6) (pa_cons pe_non (pa_cons pe_non pa_nil))))))))) (pss_one (ps_ret pe_bl)) pss_nil) (pss_one (ps_ret (pe_cmpR (k_eq (K := K) rfl hu) (pe_callB (c_repr hg hu) rfl T.n_repr (by decide +kernel) (pa_cons (pe_lst (pa_cons (pv 2) (pa_cons (pv 3) pa_nil))) pa_nil)) (pv 4) (nomark _))))))))))))))), ?_⟩
  refine s_seq (s_asg e (ev_call (by walk_at "u_ea") ⟨c, rfl, rfl⟩) fun v1 B1 H1 n1 rp => ?_)
  walk_at "u_n"
  refine s_seq (s_par (x := eSet (pt0 c) (pt1 c)) (y := eFas (rules c)) n1.sub (ea_cons (ev_call (by walk_at "u_ea") ⟨c, rfl, rfl⟩) (ea_cons (EvL.toR (el_call (by walk_at "u_ea") ⟨c, rfl, rfl⟩)) ea_nil)) fun v2 v3 B2 H2 n2 rs rr => ?_)
  walk_at "u_n"
  have rp := rp.mono n2.ext
  have N2 := n1.trans n2
  generalize pt0 c = p at *
  generalize pt1 c = q at *
  generalize rules c = fs at *
  generalize fr0 c = a at *
  generalize fr1 c = b at *
  obtain ⟨a1, a3, b1, b3⟩ := hf
  have hf : FrOk a b := ⟨a1, a3, b1, b3⟩
  have lenp : p.length ≤ 3 := by have := ok.1; omega
  have lenq : q.length ≤ 3 := by have := ok.2.1; omega
  have lenf := hR.2.1
  have np : p ≠ [] := fun z => by have := ok.1; rw [z] at this; simp at this; omega
  have nq : q ≠ [] := fun z => by have := ok.2.1; rw [z] at this; simp at this; omega
  have fitQ : Fit (.lst [eSet p q, eFas fs]) := fit_pair2 (a := a) (b := b) (by omega) (by omega) hR.2.2 (by omega) (fun x hx => Nat.lt_trans (lp x hx) (by decide)) (fun x hx => Nat.lt_trans (lq x hx) (by decide)) (by omega) (by omega)
  have zs : (eSet p q).okz = true := okz_set (by omega) (by omega)
  have zf : (eFas fs).okz = true := okz_facts (by omega)
  have zpl : (eSet (plainR p) (plainR q)).okz = true := okz_set (by unfold plainR; rw [List.length_map]; omega) (by unfold plainR; rw [List.length_map]; omega)
  have okpl : SetOk a b (plainR p) (plainR q) := ⟨by unfold plainR; rw [List.length_map]; exact ok.1, by unfold plainR; rw [List.length_map]; exact ok.2.1, hf⟩
  refine s_seq (s_asg n2.sub (ev_cb (ea_cons (ev_lst (ea_cons (ev_v rfl rs) (ea_cons (ev_v rfl rr) ea_nil)) (by simp)) ea_nil) (rl_reprD rfl fitQ)) fun v4 B4 H4 n4 q4 => ?_)
  cases q4
  walk_at "u_n"
  have rp := rp.mono n4.ext
  have rs := rs.mono n4.ext
  have rr := rr.mono n4.ext
  have N4 := N2.trans n4
  refine s_seq (s_asg (d := .lst [.bl true, .bl true, .bl true]) n4.sub (ev_lst (ea_cons (ev_B (ea_cons (ev_v rfl rp) (ea_cons (ev_v rfl rs) ea_nil)) (gset hf zs (set_ok ok))) (ea_cons (ev_BK (gD := kb_is_setting_0_d) ea_nil (ea_cons (ev_v rfl rs) (ea_cons (ev_v rfl rp) ea_nil)) (fun _ _ _ _ _ r1 r2 _ _ => kb_is_setting_0_reld r1 r2) (show gG_is_setting [eFr a b, eSet p q] (some true) from gset hf zs (set_ok ok))) (ea_cons (ev_B (ea_cons (ev_v rfl rp) (ea_cons (ev_plain (ea_cons (ev_v rfl rp) (ea_cons (ev_v rfl rs) ea_nil)) ok) ea_nil)) (gset hf zpl (set_ok okpl))) ea_nil))) (by simp)) fun v5 B5 H5 n5 q5 => ?_)
  walk_at "u_n"
  have rp := rp.mono n5.ext
  have rs := rs.mono n5.ext
  have rr := rr.mono n5.ext
  have N5 := N4.trans n5
  refine s_seq (s_asg (d := .lst ([.bl true, .bl true, .bl true] ++ [.bl true, .bl true, .bl true])) n5.sub (ev_op (ev_v rfl q5) (ev_lst (ea_cons (ev_B (ea_cons (ev_v rfl rp) (ea_cons (ev_v rfl rr) ea_nil)) (gfac hf zf (facts_ok hR))) (ea_cons (ev_B (ea_cons (ev_v rfl rp) (ea_cons (ev_lst ea_nil (by simp)) ea_nil)) (gfac hf (okz_l (by rw [okzAll]) (by simp)) rfl)) (ea_cons (ev_BK (gD := kb_is_facts_0_d) ea_nil (ea_cons (ev_v rfl rr) (ea_cons (ev_v rfl rp) ea_nil)) (fun _ _ _ _ _ r1 r2 _ _ => kb_is_facts_0_reld r1 r2) (show gG_is_facts [eFr a b, eFas fs] (some true) from gfac hf zf (facts_ok hR))) ea_nil))) (by simp)) (rv_inr (rv_cat (by simp)))) fun v6 B6 H6 n6 q6 => ?_)
  walk_at "u_n"
  have rp := rp.mono n6.ext
  have rs := rs.mono n6.ext
  have rr := rr.mono n6.ext
  have N6 := N5.trans n6
  refine s_seq (s_if (b := false) n6.sub (EvC.is (ec_t (ev_op (ev_cb (ea_cons (ev_v rfl q6) ea_nil) (rl_reprD rfl fit_b6)) (ev_cb (ea_cons (ev_lst (ds := [.bl true, .bl true, .bl true, .bl true, .bl true, .bl true]) (by walk_at "u_ea") (by simp)) ea_nil) (rl_reprD rfl fit_b6)) (rv_inl rv_neS))) (by simp)) (fun z => nomatch z) (fun _ H7 u7 => ?_))
  walk_at "u_n"
  have N7 := N6.trans u7.new
  obtain ⟨o, mo, ho⟩ := menu_at (L := oddD (cAt mg "PaintError")) (c := c) (k := 102) (by show 0 < 8; decide)
  have ho1 := List.all_eq_true.mp (oddD_ok (cAt mg "PaintError")) o mo
  rw [Bool.and_eq_true] at ho1
  obtain ⟨bs, mb, hb⟩ := menu_at (L := mSall (cAt mg "PaintError") (p.map Dt.int) (q.map Dt.int) o (draw c 101 ((p.map Dt.int).length : Nat)) (draw c 103 ((q.map Dt.int).length : Nat))) (c := c) (k := 104) (by have := (mSall_len (cAt mg "PaintError") (p.map Dt.int) (q.map Dt.int) o (draw c 101 ((p.map Dt.int).length : Nat)) (draw c 103 ((q.map Dt.int).length : Nat))).1; omega)
  have hbs := mSall_bad (cAt mg "PaintError") (a := a) (b := b) (by rw [List.length_map]; exact ok.1) (by rw [List.length_map]; exact ok.2.1) hf (okz_ints p) (okz_ints q) (by simpa using ho1.1) ho1.2 bs mb
  refine s_seq (s_asg (d := .lst [.bl false, .bl false]) N7.sub (ev_lst (ea_cons (ev_B (ea_cons (ev_v rfl rp) (ea_cons (ev_call (ea_cons (ev_v rfl (.int _)) (ea_cons (ev_v rfl rp) (ea_cons (ev_v rfl rs) ea_nil))) ⟨c, a, b, p.map Dt.int, q.map Dt.int, o, rfl, by rw [List.length_map]; exact ok.1, by rw [List.length_map]; exact ok.2.1, hf, ho, hb⟩) ea_nil)) (gset hf hbs.2 hbs.1)) (ea_cons (ev_B (ea_cons (ev_v rfl rp) (ea_cons (ev_v rfl rr) ea_nil)) (gset hf zf rfl)) ea_nil)) (by simp)) fun v8 B8 H8 n8 q8 => ?_)
  walk_at "u_n"
  have rp := rp.mono n8.ext
  have rs := rs.mono n8.ext
  have rr := rr.mono n8.ext
  have N8 := N7.trans n8
  obtain ⟨bf, mf, hbf⟩ := menu_at (L := menuFa (cAt mg "PaintError") a b) (c := c) (k := 105) (by rw [menuFa_len]; decide)
  have hf1 := List.all_eq_true.mp (menuFa_bad (cAt mg "PaintError") hf) bf mf
  rw [Bool.and_eq_true] at hf1
  obtain ⟨br, mr, hbr⟩ := menu_at (L := menuRu (cAt mg "PaintError") (fs.map eFa) (spoil (fs.map eFa) bf (draw c 106 ((fs.length : Nat) + 1)))) (c := c) (k := 107) (by rw [menuRu_len]; decide)
  rw [menuRu_len] at hbr
  have hrs := menuRu_bad (cAt mg "PaintError") (a := a) (b := b) lenf (by simpa using hf1.1) hf1.2 br mr
  refine s_seq (s_asg (d := .lst ([.bl false, .bl false] ++ [.bl false, .bl false])) n8.sub (ev_op (ev_v rfl q8) (ev_lst (ea_cons (ev_B (ea_cons (ev_v rfl rp) (ea_cons (ev_call (ea_cons (ev_v rfl (.int _)) (ea_cons (ev_v rfl rp) (ea_cons (ev_v rfl rr) ea_nil))) ⟨c, a, b, fs, bf, rfl, lenf, hbf, hbr⟩) ea_nil)) (gfac hf hrs.2 hrs.1)) (ea_cons (ev_B (ea_cons (ev_v rfl rp) (ea_cons (ev_v rfl rs) ea_nil)) (gfac hf zs rfl)) ea_nil)) (by simp)) (rv_inr (rv_cat (by simp)))) fun v9 B9 H9 n9 q9 => ?_)
  walk_at "u_n"
  have rs := rs.mono n9.ext
  have rr := rr.mono n9.ext
  have N9 := N8.trans n9
  refine s_seq (s_if (b := false) n9.sub (EvC.is (ec_t (ev_op (ev_cb (ea_cons (ev_v rfl q9) ea_nil) (rl_reprD rfl fit_b4)) (ev_cb (ea_cons (ev_lst (ds := [.bl false, .bl false, .bl false, .bl false]) (by walk_at "u_ea") (by simp)) ea_nil) (rl_reprD rfl fit_b4)) (rv_inl rv_neS))) (by simp)) (fun z => nomatch z) (fun _ H10 u10 => ?_))
  walk_at "u_n"
  have N10 := N9.trans u10.new
  obtain ⟨w, mw, hw⟩ := menu_at (L := menuFr (cAt mg "PaintError")) (c := c) (k := 100) (by show 0 < 20; decide)
  have hw1 : frameD w = false := by simpa using List.all_eq_true.mp (menuFr_bad (cAt mg "PaintError")) w mw
  refine s_seq (s_asg (d := w) N10.sub (ev_call (ea_cons (ev_v rfl (.int _)) ea_nil) ⟨c, rfl, hw⟩) fun v11 B11 H11 n11 q11 => ?_)
  walk_at "u_n"
  have rs := rs.mono n11.ext
  have rr := rr.mono n11.ext
  have N11 := N10.trans n11
  refine s_seq (s_if (b := !true || !true) n11.sub (ec_or (ec_not (ec_v (ev_call (ea_cons (ev_v rfl q11) (ea_cons (ev_v rfl rs) (ea_cons (ev_v rfl rr) ea_nil))) ⟨w, eSet p q, eFas fs, rfl, hw1, zs, zf, rfl⟩))) fun _ => ec_not (ec_v (ev_call (ea_cons (ev_v rfl q11) (ea_cons ev_n (ea_cons ev_n ea_nil))) ⟨w, .non, .non, rfl, hw1, by rw [Dt.okz] <;> simp, by rw [Dt.okz] <;> simp, rfl⟩))) (fun z => nomatch z) (fun _ H12 u12 => ?_))
  walk_at "u_n"
  have N12 := N11.trans u12.new
  exact s_retE N12.sub (x := .bl (decide ((Dt.lst [eSet p q, eFas fs]).py.shown = (Dt.lst [eSet p q, eFas fs]).py.shown))) (ev_op (ev_cb (ea_cons (ev_lst (ea_cons (ev_v rfl rs) (ea_cons (ev_v rfl rr) ea_nil)) (by simp)) ea_nil) (rl_reprD rfl fitQ)) (ev_v rfl (.str _)) (rv_inl rv_eqS)) (by simp) (fun v Bz Hz nz rv => ret v Bz Hz (N12.trans nz) rv)

def spLaw (K : PySem.W.Frag) : Sp := fun vs H Q _ => ∃ (a : Addr) (ns : List Int), vs = [.ref a] ∧ Scr K a ns H ∧ ns.length ≤ 63 ∧ ∀ H', Q (.bl true) H'
theorem ok_law (T : Txt K mg fa fd) : FnG P w K mg base CX0 8 (fa 37) (fd 37) ["script"] (spLaw K) := by
  refine fn_S T.d_law.F sc_law (fun vs H Q E h => by obtain ⟨_, _, rfl, _⟩ := h; rfl) (fun cdv Γ below s H vs Q E hg hr h => ?_)
  obtain ⟨a, ns, rfl, ⟨hs, _⟩, hl, ret⟩ := h
  refine ⟨_, (pss_one (ps_ret (pe_callB (k_all (K := K) rfl rfl) rfl T.n_all (by decide +kernel) (pa_cons (pe_lc (own := [("k", 1)]) (g := (gName 1)) (tt := tYes) rfl sc_law.nd (pi_range1 rfl T.n_range (pa_cons (pe_callB (c_max rfl) rfl T.n_max (by decide +kernel) (pa_cons pe_int (pa_cons (pe_callB (c_min rfl) rfl T.n_min (by decide +kernel) (pa_cons pe_int (pa_cons (pe_callB (k_len (K := K) rfl) rfl T.n_len (by decide +kernel) (pa_cons (pv 0) pa_nil)) pa_nil))) pa_nil))) pa_nil)) (blkOk_by (N := ["script", "k"]) (sc := defScope s_law) (by decide +kernel)) (fun _ _ _ _ _ => (pg_name (i := 1) sc_law.nd rfl (by first | exact Or.inl rfl | exact Or.inr rfl))) (fun _ _ _ _ _ => pts_nil) (fun _ _ _ _ _ => (pe_go (ok__law_right T) hg (hr.mono (by decide)) rfl T.d__law_right.at_ T.d__law_right.F.kp (bn__law_right T) pass0 (pa_cons (pe_go (ok__law_cell T) hg (hr.mono (by decide)) rfl T.d__law_cell.at_ T.d__law_cell.F.kp (bn__law_cell T) pass0 (pa_cons (pv 0) (pa_cons (pv 1) pa_nil))) pa_nil)))) pa_nil)))), ?_⟩
  refine s_retE (Ex.refl H) (ev_cb (ea_cons (ev_lcR1 (f := fun i => .bl ((fun _ => true) i)) (ea_cons (ev_cb (ea_cons ev_i (ea_cons (ev_cb (ea_cons ev_i (ea_cons (ev_lenS rfl hs) ea_nil)) rl_min2) ea_nil)) rl_max2) ea_nil) ?_ (fun _ => rfl) (fun i B1 hi e1 => ?_)) ea_nil) (rl_all (p := fun _ => true))) (d := .bl true) (by simp) (fun v B1 H2 n1 rv => by cases rv; exact ret H2)
  · constructor
    · split <;> split <;> omega
    · split <;> split <;> omega
  · exact ev_call (ea_cons (ev_cell rfl (Evl.ex_l e1 hs) (ev_v rfl (.int _)) (by omega)) ea_nil) ⟨_, rfl, rfl⟩

end
theorem all_mk {l : PySem.W.OpenLaw} {w : World} {K : PySem.W.Frag} {h : Heap} {mg : Str → Option Value} {fL f6 f7 f8 f9 f10 f11 f15 f16 f17 f18 f19 f20 f21 f23 f24 f25 f26 f27 f28 f29 f30 f31 f32 f33 f35 f36 f37 : Addr} (X : K.In h) (G : h.Ns mainGlobals mg) (hfa : mg "law" = some (.ref fL))
    {od6 an6 od7 an7 od8 an8 od9 an9 od10 an10 od11 an11 od15 an15 od16 an16 od17 an17 od18 an18 od19 an19 od20 an20 od21 an21 od23 an23 od24 an24 od25 an25 od26 an26 od27 an27 od28 an28 od29 an29 od30 an30 od31 an31 od32 an32 od33 an33 od35 an35 od36 an36 od37 an37 : Option Addr} {sl6 sl7 sl8 sl9 sl10 sl11 sl15 sl16 sl17 sl18 sl19 sl20 sl21 sl23 sl24 sl25 sl26 sl27 sl28 sl29 sl30 sl31 sl32 sl33 sl35 sl36 sl37 : Array (Option Value)} {oc6 kV6 dc6 pm6 cd6 ct6 oc7 kV7 dc7 pm7 cd7 ct7 oc8 kV8 dc8 pm8 cd8 ct8 oc9 kV9 dc9 pm9 cd9 ct9 oc10 kV10 dc10 pm10 cd10 ct10 oc11 kV11 dc11 pm11 cd11 ct11 oc15 kV15 dc15 pm15 cd15 ct15 oc16 kV16 dc16 pm16 cd16 ct16 oc17 kV17 dc17 pm17 cd17 ct17 oc18 kV18 dc18 pm18 cd18 ct18 oc19 kV19 dc19 pm19 cd19 ct19 oc20 kV20 dc20 pm20 cd20 ct20 oc21 kV21 dc21 pm21 cd21 ct21 oc23 kV23 dc23 pm23 cd23 ct23 oc24 kV24 dc24 pm24 cd24 ct24 oc25 kV25 dc25 pm25 cd25 ct25 oc26 kV26 dc26 pm26 cd26 ct26 oc27 kV27 dc27 pm27 cd27 ct27 oc28 kV28 dc28 pm28 cd28 ct28 oc29 kV29 dc29 pm29 cd29 ct29 oc30 kV30 dc30 pm30 cd30 ct30 oc31 kV31 dc31 pm31 cd31 ct31 oc32 kV32 dc32 pm32 cd32 ct32 oc33 kV33 dc33 pm33 cd33 ct33 oc35 kV35 dc35 pm35 cd35 ct35 oc36 kV36 dc36 pm36 cd36 ct36 oc37 kV37 dc37 pm37 cd37 ct37 : Value} {t_MOST_UNKNOWNS t_MOST_LEAST t_MOST_FACTS : Tok}
    {c_xInvalidFrame c_xPaintError : Addr}
    (a_6 : PySem.W.nsIn K mainGlobals "is_within" = some (some (.ref f6))) (l_6 : K.lookup f6 = some ⟨oc6, od6, .func (PySem.W.fnOf "is_within" "is_within" (defArgs s_is_within) (defBody s_is_within) (defScope s_is_within) .none kV6 dc6 pm6 an6 cd6 ct6), sl6⟩) (c_6 : PySem.W.codeIn K cd6 "is_within" = true) (k_6 : PySem.W.keepIn K (.ref f6) = true)
    (a_7 : PySem.W.nsIn K mainGlobals "is_tuple_of" = some (some (.ref f7))) (l_7 : K.lookup f7 = some ⟨oc7, od7, .func (PySem.W.fnOf "is_tuple_of" "is_tuple_of" (defArgs s_is_tuple_of) (defBody s_is_tuple_of) (defScope s_is_tuple_of) .none kV7 dc7 pm7 an7 cd7 ct7), sl7⟩) (c_7 : PySem.W.codeIn K cd7 "is_tuple_of" = true) (k_7 : PySem.W.keepIn K (.ref f7) = true)
    (a_8 : PySem.W.nsIn K mainGlobals "is_axis" = some (some (.ref f8))) (l_8 : K.lookup f8 = some ⟨oc8, od8, .func (PySem.W.fnOf "is_axis" "is_axis" (defArgs s_is_axis) (defBody s_is_axis) (defScope s_is_axis) .none kV8 dc8 pm8 an8 cd8 ct8), sl8⟩) (c_8 : PySem.W.codeIn K cd8 "is_axis" = true) (k_8 : PySem.W.keepIn K (.ref f8) = true)
    (a_9 : PySem.W.nsIn K mainGlobals "is_frame" = some (some (.ref f9))) (l_9 : K.lookup f9 = some ⟨oc9, od9, .func (PySem.W.fnOf "is_frame" "is_frame" (defArgs s_is_frame) (defBody s_is_frame) (defScope s_is_frame) .none kV9 dc9 pm9 an9 cd9 ct9), sl9⟩) (c_9 : PySem.W.codeIn K cd9 "is_frame" = true) (k_9 : PySem.W.keepIn K (.ref f9) = true)
    (a_10 : PySem.W.nsIn K mainGlobals "need_frame" = some (some (.ref f10))) (l_10 : K.lookup f10 = some ⟨oc10, od10, .func (PySem.W.fnOf "need_frame" "need_frame" (defArgs s_need_frame) (defBody s_need_frame) (defScope s_need_frame) .none kV10 dc10 pm10 an10 cd10 ct10), sl10⟩) (c_10 : PySem.W.codeIn K cd10 "need_frame" = true) (k_10 : PySem.W.keepIn K (.ref f10) = true)
    (a_11 : PySem.W.nsIn K mainGlobals "on_axis" = some (some (.ref f11))) (l_11 : K.lookup f11 = some ⟨oc11, od11, .func (PySem.W.fnOf "on_axis" "on_axis" (defArgs s_on_axis) (defBody s_on_axis) (defScope s_on_axis) .none kV11 dc11 pm11 an11 cd11 ct11), sl11⟩) (c_11 : PySem.W.codeIn K cd11 "on_axis" = true) (k_11 : PySem.W.keepIn K (.ref f11) = true)
    (a_15 : PySem.W.nsIn K mainGlobals "is_row" = some (some (.ref f15))) (l_15 : K.lookup f15 = some ⟨oc15, od15, .func (PySem.W.fnOf "is_row" "is_row" (defArgs s_is_row) (defBody s_is_row) (defScope s_is_row) .none kV15 dc15 pm15 an15 cd15 ct15), sl15⟩) (c_15 : PySem.W.codeIn K cd15 "is_row" = true) (k_15 : PySem.W.keepIn K (.ref f15) = true)
    (a_16 : PySem.W.nsIn K mainGlobals "is_setting" = some (some (.ref f16))) (l_16 : K.lookup f16 = some ⟨oc16, od16, .func (PySem.W.fnOf "is_setting" "is_setting" (defArgs s_is_setting) (defBody s_is_setting) (defScope s_is_setting) .none kV16 dc16 pm16 an16 cd16 ct16), sl16⟩) (c_16 : PySem.W.codeIn K cd16 "is_setting" = true) (k_16 : PySem.W.keepIn K (.ref f16) = true)
    (a_17 : PySem.W.nsIn K mainGlobals "need_setting" = some (some (.ref f17))) (l_17 : K.lookup f17 = some ⟨oc17, od17, .func (PySem.W.fnOf "need_setting" "need_setting" (defArgs s_need_setting) (defBody s_need_setting) (defScope s_need_setting) .none kV17 dc17 pm17 an17 cd17 ct17), sl17⟩) (c_17 : PySem.W.codeIn K cd17 "need_setting" = true) (k_17 : PySem.W.keepIn K (.ref f17) = true)
    (a_18 : PySem.W.nsIn K mainGlobals "is_fact" = some (some (.ref f18))) (l_18 : K.lookup f18 = some ⟨oc18, od18, .func (PySem.W.fnOf "is_fact" "is_fact" (defArgs s_is_fact) (defBody s_is_fact) (defScope s_is_fact) .none kV18 dc18 pm18 an18 cd18 ct18), sl18⟩) (c_18 : PySem.W.codeIn K cd18 "is_fact" = true) (k_18 : PySem.W.keepIn K (.ref f18) = true)
    (a_19 : PySem.W.nsIn K mainGlobals "is_facts" = some (some (.ref f19))) (l_19 : K.lookup f19 = some ⟨oc19, od19, .func (PySem.W.fnOf "is_facts" "is_facts" (defArgs s_is_facts) (defBody s_is_facts) (defScope s_is_facts) .none kV19 dc19 pm19 an19 cd19 ct19), sl19⟩) (c_19 : PySem.W.codeIn K cd19 "is_facts" = true) (k_19 : PySem.W.keepIn K (.ref f19) = true)
    (a_20 : PySem.W.nsIn K mainGlobals "plain_row" = some (some (.ref f20))) (l_20 : K.lookup f20 = some ⟨oc20, od20, .func (PySem.W.fnOf "plain_row" "plain_row" (defArgs s_plain_row) (defBody s_plain_row) (defScope s_plain_row) .none kV20 dc20 pm20 an20 cd20 ct20), sl20⟩) (c_20 : PySem.W.codeIn K cd20 "plain_row" = true) (k_20 : PySem.W.keepIn K (.ref f20) = true)
    (a_21 : PySem.W.nsIn K mainGlobals "plain" = some (some (.ref f21))) (l_21 : K.lookup f21 = some ⟨oc21, od21, .func (PySem.W.fnOf "plain" "plain" (defArgs s_plain) (defBody s_plain) (defScope s_plain) .none kV21 dc21 pm21 an21 cd21 ct21), sl21⟩) (c_21 : PySem.W.codeIn K cd21 "plain" = true) (k_21 : PySem.W.keepIn K (.ref f21) = true)
    (a_23 : PySem.W.nsIn K mainGlobals "_law_cell" = some (some (.ref f23))) (l_23 : K.lookup f23 = some ⟨oc23, od23, .func (PySem.W.fnOf "_law_cell" "_law_cell" (defArgs s__law_cell) (defBody s__law_cell) (defScope s__law_cell) .none kV23 dc23 pm23 an23 cd23 ct23), sl23⟩) (c_23 : PySem.W.codeIn K cd23 "_law_cell" = true) (k_23 : PySem.W.keepIn K (.ref f23) = true)
    (a_24 : PySem.W.nsIn K mainGlobals "_law_draw" = some (some (.ref f24))) (l_24 : K.lookup f24 = some ⟨oc24, od24, .func (PySem.W.fnOf "_law_draw" "_law_draw" (defArgs s__law_draw) (defBody s__law_draw) (defScope s__law_draw) .none kV24 dc24 pm24 an24 cd24 ct24), sl24⟩) (c_24 : PySem.W.codeIn K cd24 "_law_draw" = true) (k_24 : PySem.W.keepIn K (.ref f24) = true)
    (a_25 : PySem.W.nsIn K mainGlobals "_law_values" = some (some (.ref f25))) (l_25 : K.lookup f25 = some ⟨oc25, od25, .func (PySem.W.fnOf "_law_values" "_law_values" (defArgs s__law_values) (defBody s__law_values) (defScope s__law_values) .none kV25 dc25 pm25 an25 cd25 ct25), sl25⟩) (c_25 : PySem.W.codeIn K cd25 "_law_values" = true) (k_25 : PySem.W.keepIn K (.ref f25) = true)
    (a_26 : PySem.W.nsIn K mainGlobals "_law_frame" = some (some (.ref f26))) (l_26 : K.lookup f26 = some ⟨oc26, od26, .func (PySem.W.fnOf "_law_frame" "_law_frame" (defArgs s__law_frame) (defBody s__law_frame) (defScope s__law_frame) .none kV26 dc26 pm26 an26 cd26 ct26), sl26⟩) (c_26 : PySem.W.codeIn K cd26 "_law_frame" = true) (k_26 : PySem.W.keepIn K (.ref f26) = true)
    (a_27 : PySem.W.nsIn K mainGlobals "_law_setting" = some (some (.ref f27))) (l_27 : K.lookup f27 = some ⟨oc27, od27, .func (PySem.W.fnOf "_law_setting" "_law_setting" (defArgs s__law_setting) (defBody s__law_setting) (defScope s__law_setting) .none kV27 dc27 pm27 an27 cd27 ct27), sl27⟩) (c_27 : PySem.W.codeIn K cd27 "_law_setting" = true) (k_27 : PySem.W.keepIn K (.ref f27) = true)
    (a_28 : PySem.W.nsIn K mainGlobals "_law_fact" = some (some (.ref f28))) (l_28 : K.lookup f28 = some ⟨oc28, od28, .func (PySem.W.fnOf "_law_fact" "_law_fact" (defArgs s__law_fact) (defBody s__law_fact) (defScope s__law_fact) .none kV28 dc28 pm28 an28 cd28 ct28), sl28⟩) (c_28 : PySem.W.codeIn K cd28 "_law_fact" = true) (k_28 : PySem.W.keepIn K (.ref f28) = true)
    (a_29 : PySem.W.nsIn K mainGlobals "_law_rules" = some (some (.ref f29))) (l_29 : K.lookup f29 = some ⟨oc29, od29, .func (PySem.W.fnOf "_law_rules" "_law_rules" (defArgs s__law_rules) (defBody s__law_rules) (defScope s__law_rules) .none kV29 dc29 pm29 an29 cd29 ct29), sl29⟩) (c_29 : PySem.W.codeIn K cd29 "_law_rules" = true) (k_29 : PySem.W.keepIn K (.ref f29) = true)
    (a_30 : PySem.W.nsIn K mainGlobals "_law_bad_frame" = some (some (.ref f30))) (l_30 : K.lookup f30 = some ⟨oc30, od30, .func (PySem.W.fnOf "_law_bad_frame" "_law_bad_frame" (defArgs s__law_bad_frame) (defBody s__law_bad_frame) (defScope s__law_bad_frame) .none kV30 dc30 pm30 an30 cd30 ct30), sl30⟩) (c_30 : PySem.W.codeIn K cd30 "_law_bad_frame" = true) (k_30 : PySem.W.keepIn K (.ref f30) = true)
    (a_31 : PySem.W.nsIn K mainGlobals "_law_bad_setting" = some (some (.ref f31))) (l_31 : K.lookup f31 = some ⟨oc31, od31, .func (PySem.W.fnOf "_law_bad_setting" "_law_bad_setting" (defArgs s__law_bad_setting) (defBody s__law_bad_setting) (defScope s__law_bad_setting) .none kV31 dc31 pm31 an31 cd31 ct31), sl31⟩) (c_31 : PySem.W.codeIn K cd31 "_law_bad_setting" = true) (k_31 : PySem.W.keepIn K (.ref f31) = true)
    (a_32 : PySem.W.nsIn K mainGlobals "_law_bad_fact" = some (some (.ref f32))) (l_32 : K.lookup f32 = some ⟨oc32, od32, .func (PySem.W.fnOf "_law_bad_fact" "_law_bad_fact" (defArgs s__law_bad_fact) (defBody s__law_bad_fact) (defScope s__law_bad_fact) .none kV32 dc32 pm32 an32 cd32 ct32), sl32⟩) (c_32 : PySem.W.codeIn K cd32 "_law_bad_fact" = true) (k_32 : PySem.W.keepIn K (.ref f32) = true)
    (a_33 : PySem.W.nsIn K mainGlobals "_law_bad_rules" = some (some (.ref f33))) (l_33 : K.lookup f33 = some ⟨oc33, od33, .func (PySem.W.fnOf "_law_bad_rules" "_law_bad_rules" (defArgs s__law_bad_rules) (defBody s__law_bad_rules) (defScope s__law_bad_rules) .none kV33 dc33 pm33 an33 cd33 ct33), sl33⟩) (c_33 : PySem.W.codeIn K cd33 "_law_bad_rules" = true) (k_33 : PySem.W.keepIn K (.ref f33) = true)
    (a_35 : PySem.W.nsIn K mainGlobals "_law_refused" = some (some (.ref f35))) (l_35 : K.lookup f35 = some ⟨oc35, od35, .func (PySem.W.fnOf "_law_refused" "_law_refused" (defArgs s__law_refused) (defBody s__law_refused) (defScope s__law_refused) .none kV35 dc35 pm35 an35 cd35 ct35), sl35⟩) (c_35 : PySem.W.codeIn K cd35 "_law_refused" = true) (k_35 : PySem.W.keepIn K (.ref f35) = true)
    (a_36 : PySem.W.nsIn K mainGlobals "_law_right" = some (some (.ref f36))) (l_36 : K.lookup f36 = some ⟨oc36, od36, .func (PySem.W.fnOf "_law_right" "_law_right" (defArgs s__law_right) (defBody s__law_right) (defScope s__law_right) .none kV36 dc36 pm36 an36 cd36 ct36), sl36⟩) (c_36 : PySem.W.codeIn K cd36 "_law_right" = true) (k_36 : PySem.W.keepIn K (.ref f36) = true)
    (a_37 : PySem.W.nsIn K mainGlobals "law" = some (some (.ref f37))) (l_37 : K.lookup f37 = some ⟨oc37, od37, .func (PySem.W.fnOf "law" "law" (defArgs s_law) (defBody s_law) (defScope s_law) .none kV37 dc37 pm37 an37 cd37 ct37), sl37⟩) (c_37 : PySem.W.codeIn K cd37 "law" = true) (k_37 : PySem.W.keepIn K (.ref f37) = true)
    (g_MOST_UNKNOWNS : PySem.W.nsIn K mainGlobals "MOST_UNKNOWNS" = some (some (.int 3 t_MOST_UNKNOWNS)))
    (g_MOST_LEAST : PySem.W.nsIn K mainGlobals "MOST_LEAST" = some (some (.int 6 t_MOST_LEAST)))
    (g_MOST_FACTS : PySem.W.nsIn K mainGlobals "MOST_FACTS" = some (some (.int 6 t_MOST_FACTS)))
    (z_ValueError : PySem.W.nsIn K mainGlobals "ValueError" = some none)
    (z_abs : PySem.W.nsIn K mainGlobals "abs" = some none)
    (z_all : PySem.W.nsIn K mainGlobals "all" = some none)
    (z_int : PySem.W.nsIn K mainGlobals "int" = some none)
    (z_len : PySem.W.nsIn K mainGlobals "len" = some none)
    (z_list : PySem.W.nsIn K mainGlobals "list" = some none)
    (z_max : PySem.W.nsIn K mainGlobals "max" = some none)
    (z_min : PySem.W.nsIn K mainGlobals "min" = some none)
    (z_range : PySem.W.nsIn K mainGlobals "range" = some none)
    (z_repr : PySem.W.nsIn K mainGlobals "repr" = some none)
    (z_str : PySem.W.nsIn K mainGlobals "str" = some none)
    (z_tuple : PySem.W.nsIn K mainGlobals "tuple" = some none)
    (z_type : PySem.W.nsIn K mainGlobals "type" = some none)
    (xg_InvalidFrame : PySem.W.nsIn K mainGlobals "InvalidFrame" = some (some (.ref c_xInvalidFrame)))
    (xb_InvalidFrame : PySem.W.subIn K (.ref c_xInvalidFrame) (.type "BaseException") = some true)
    (xt_InvalidFrame : PySem.W.typeIn K (.ref c_xInvalidFrame) = some (.type "type"))
    (xhd_InvalidFrame : PySem.W.hasDictIn K c_xInvalidFrame = true)
    (xk_InvalidFrame : PySem.W.keepIn K (.ref c_xInvalidFrame) = true)
    (xx_InvalidFrame : PySem.W.excIn K c_xInvalidFrame [.type "ValueError", .type "Exception", .type "BaseException", .type "object"] "ValueError.__new__" = true)
    (xv_InvalidFrame : PySem.W.subIn K (.ref c_xInvalidFrame) (.type "ValueError") = some true)
    (xhg_InvalidFrame : PySem.W.findIn K (.ref c_xInvalidFrame) "__getattribute__" = some (some (.builtin "BaseException.__getattribute__")))
    (xhk_InvalidFrame : PySem.W.findIn K (.ref c_xInvalidFrame) "__getattr__" = some none)
    (xha_InvalidFrame : PySem.W.findIn K (.ref c_xInvalidFrame) "__class__" = some (some (.builtin "object.__class__")))
    (xhn_InvalidFrame : PySem.W.specialIn K (.builtin "object.__class__") "__get__" = some (some (.builtin "getset_descriptor.__get__")))
    (xht_InvalidFrame : PySem.W.takesIn K (.builtin "object.__class__") = some true)
    (xhm_InvalidFrame : PySem.W.mroIn K c_xInvalidFrame (.type "object") = some true)
    (xs_InvalidFrame_InvalidFrame : PySem.W.subIn K (.ref c_xInvalidFrame) (.ref c_xInvalidFrame) = some true)
    (xg_PaintError : PySem.W.nsIn K mainGlobals "PaintError" = some (some (.ref c_xPaintError)))
    (xb_PaintError : PySem.W.subIn K (.ref c_xPaintError) (.type "BaseException") = some true)
    (xt_PaintError : PySem.W.typeIn K (.ref c_xPaintError) = some (.type "type"))
    (xhd_PaintError : PySem.W.hasDictIn K c_xPaintError = true)
    (xk_PaintError : PySem.W.keepIn K (.ref c_xPaintError) = true)
    (xx_PaintError : PySem.W.excIn K c_xPaintError [.type "ValueError", .type "Exception", .type "BaseException", .type "object"] "ValueError.__new__" = true)
    (xv_PaintError : PySem.W.subIn K (.ref c_xPaintError) (.type "ValueError") = some true)
    (xhg_PaintError : PySem.W.findIn K (.ref c_xPaintError) "__getattribute__" = some (some (.builtin "BaseException.__getattribute__")))
    (xhk_PaintError : PySem.W.findIn K (.ref c_xPaintError) "__getattr__" = some none)
    (xha_PaintError : PySem.W.findIn K (.ref c_xPaintError) "__class__" = some (some (.builtin "object.__class__")))
    (xhn_PaintError : PySem.W.specialIn K (.builtin "object.__class__") "__get__" = some (some (.builtin "getset_descriptor.__get__")))
    (xht_PaintError : PySem.W.takesIn K (.builtin "object.__class__") = some true)
    (xhm_PaintError : PySem.W.mroIn K c_xPaintError (.type "object") = some true)
    : ∃ fd : FuncData, (∀ (s : Shared) (v : Value), BindsTo s fd ⟨[v], []⟩ [("script", v)]) ∧ ∀ base : Heap, K.In base → base.Ns mainGlobals mg → FnG l.prog w K mg base CX0 8 fL fd ["script"] (spLaw K) := by
  have e := hfa.symm.trans (PySem.W.mg_of X G a_37)
  cases e
  have T : Txt K mg (fun i => match i with | 6 => f6 | 7 => f7 | 8 => f8 | 9 => f9 | 10 => f10 | 11 => f11 | 15 => f15 | 16 => f16 | 17 => f17 | 18 => f18 | 19 => f19 | 20 => f20 | 21 => f21 | 23 => f23 | 24 => f24 | 25 => f25 | 26 => f26 | 27 => f27 | 28 => f28 | 29 => f29 | 30 => f30 | 31 => f31 | 32 => f32 | 33 => f33 | 35 => f35 | 36 => f36 | 37 => fL | _ => 0) (fun i => match i with | 6 => PySem.W.fnOf "is_within" "is_within" (defArgs s_is_within) (defBody s_is_within) (defScope s_is_within) .none kV6 dc6 pm6 an6 cd6 ct6 | 7 => PySem.W.fnOf "is_tuple_of" "is_tuple_of" (defArgs s_is_tuple_of) (defBody s_is_tuple_of) (defScope s_is_tuple_of) .none kV7 dc7 pm7 an7 cd7 ct7 | 8 => PySem.W.fnOf "is_axis" "is_axis" (defArgs s_is_axis) (defBody s_is_axis) (defScope s_is_axis) .none kV8 dc8 pm8 an8 cd8 ct8 | 9 => PySem.W.fnOf "is_frame" "is_frame" (defArgs s_is_frame) (defBody s_is_frame) (defScope s_is_frame) .none kV9 dc9 pm9 an9 cd9 ct9 | 10 => PySem.W.fnOf "need_frame" "need_frame" (defArgs s_need_frame) (defBody s_need_frame) (defScope s_need_frame) .none kV10 dc10 pm10 an10 cd10 ct10 | 11 => PySem.W.fnOf "on_axis" "on_axis" (defArgs s_on_axis) (defBody s_on_axis) (defScope s_on_axis) .none kV11 dc11 pm11 an11 cd11 ct11 | 15 => PySem.W.fnOf "is_row" "is_row" (defArgs s_is_row) (defBody s_is_row) (defScope s_is_row) .none kV15 dc15 pm15 an15 cd15 ct15 | 16 => PySem.W.fnOf "is_setting" "is_setting" (defArgs s_is_setting) (defBody s_is_setting) (defScope s_is_setting) .none kV16 dc16 pm16 an16 cd16 ct16 | 17 => PySem.W.fnOf "need_setting" "need_setting" (defArgs s_need_setting) (defBody s_need_setting) (defScope s_need_setting) .none kV17 dc17 pm17 an17 cd17 ct17 | 18 => PySem.W.fnOf "is_fact" "is_fact" (defArgs s_is_fact) (defBody s_is_fact) (defScope s_is_fact) .none kV18 dc18 pm18 an18 cd18 ct18 | 19 => PySem.W.fnOf "is_facts" "is_facts" (defArgs s_is_facts) (defBody s_is_facts) (defScope s_is_facts) .none kV19 dc19 pm19 an19 cd19 ct19 | 20 => PySem.W.fnOf "plain_row" "plain_row" (defArgs s_plain_row) (defBody s_plain_row) (defScope s_plain_row) .none kV20 dc20 pm20 an20 cd20 ct20 | 21 => PySem.W.fnOf "plain" "plain" (defArgs s_plain) (defBody s_plain) (defScope s_plain) .none kV21 dc21 pm21 an21 cd21 ct21 | 23 => PySem.W.fnOf "_law_cell" "_law_cell" (defArgs s__law_cell) (defBody s__law_cell) (defScope s__law_cell) .none kV23 dc23 pm23 an23 cd23 ct23 | 24 => PySem.W.fnOf "_law_draw" "_law_draw" (defArgs s__law_draw) (defBody s__law_draw) (defScope s__law_draw) .none kV24 dc24 pm24 an24 cd24 ct24 | 25 => PySem.W.fnOf "_law_values" "_law_values" (defArgs s__law_values) (defBody s__law_values) (defScope s__law_values) .none kV25 dc25 pm25 an25 cd25 ct25 | 26 => PySem.W.fnOf "_law_frame" "_law_frame" (defArgs s__law_frame) (defBody s__law_frame) (defScope s__law_frame) .none kV26 dc26 pm26 an26 cd26 ct26 | 27 => PySem.W.fnOf "_law_setting" "_law_setting" (defArgs s__law_setting) (defBody s__law_setting) (defScope s__law_setting) .none kV27 dc27 pm27 an27 cd27 ct27 | 28 => PySem.W.fnOf "_law_fact" "_law_fact" (defArgs s__law_fact) (defBody s__law_fact) (defScope s__law_fact) .none kV28 dc28 pm28 an28 cd28 ct28 | 29 => PySem.W.fnOf "_law_rules" "_law_rules" (defArgs s__law_rules) (defBody s__law_rules) (defScope s__law_rules) .none kV29 dc29 pm29 an29 cd29 ct29 | 30 => PySem.W.fnOf "_law_bad_frame" "_law_bad_frame" (defArgs s__law_bad_frame) (defBody s__law_bad_frame) (defScope s__law_bad_frame) .none kV30 dc30 pm30 an30 cd30 ct30 | 31 => PySem.W.fnOf "_law_bad_setting" "_law_bad_setting" (defArgs s__law_bad_setting) (defBody s__law_bad_setting) (defScope s__law_bad_setting) .none kV31 dc31 pm31 an31 cd31 ct31 | 32 => PySem.W.fnOf "_law_bad_fact" "_law_bad_fact" (defArgs s__law_bad_fact) (defBody s__law_bad_fact) (defScope s__law_bad_fact) .none kV32 dc32 pm32 an32 cd32 ct32 | 33 => PySem.W.fnOf "_law_bad_rules" "_law_bad_rules" (defArgs s__law_bad_rules) (defBody s__law_bad_rules) (defScope s__law_bad_rules) .none kV33 dc33 pm33 an33 cd33 ct33 | 35 => PySem.W.fnOf "_law_refused" "_law_refused" (defArgs s__law_refused) (defBody s__law_refused) (defScope s__law_refused) .none kV35 dc35 pm35 an35 cd35 ct35 | 36 => PySem.W.fnOf "_law_right" "_law_right" (defArgs s__law_right) (defBody s__law_right) (defScope s__law_right) .none kV36 dc36 pm36 an36 cd36 ct36 | 37 => PySem.W.fnOf "law" "law" (defArgs s_law) (defBody s_law) (defScope s_law) .none kV37 dc37 pm37 an37 cd37 ct37 | _ => PySem.W.fnOf "" "" (defArgs s_law) [] (defScope s_law) .none .none .none .none none .none .none) := {
    d_is_within := ⟨fun_mk (st := s_is_within) l_6 c_6 k_6, PySem.W.mg_of X G a_6⟩
    d_is_tuple_of := ⟨fun_mk (st := s_is_tuple_of) l_7 c_7 k_7, PySem.W.mg_of X G a_7⟩
    d_is_axis := ⟨fun_mk (st := s_is_axis) l_8 c_8 k_8, PySem.W.mg_of X G a_8⟩
    d_is_frame := ⟨fun_mk (st := s_is_frame) l_9 c_9 k_9, PySem.W.mg_of X G a_9⟩
    d_need_frame := ⟨fun_mk (st := s_need_frame) l_10 c_10 k_10, PySem.W.mg_of X G a_10⟩
    d_on_axis := ⟨fun_mk (st := s_on_axis) l_11 c_11 k_11, PySem.W.mg_of X G a_11⟩
    d_is_row := ⟨fun_mk (st := s_is_row) l_15 c_15 k_15, PySem.W.mg_of X G a_15⟩
    d_is_setting := ⟨fun_mk (st := s_is_setting) l_16 c_16 k_16, PySem.W.mg_of X G a_16⟩
    d_need_setting := ⟨fun_mk (st := s_need_setting) l_17 c_17 k_17, PySem.W.mg_of X G a_17⟩
    d_is_fact := ⟨fun_mk (st := s_is_fact) l_18 c_18 k_18, PySem.W.mg_of X G a_18⟩
    d_is_facts := ⟨fun_mk (st := s_is_facts) l_19 c_19 k_19, PySem.W.mg_of X G a_19⟩
    d_plain_row := ⟨fun_mk (st := s_plain_row) l_20 c_20 k_20, PySem.W.mg_of X G a_20⟩
    d_plain := ⟨fun_mk (st := s_plain) l_21 c_21 k_21, PySem.W.mg_of X G a_21⟩
    d__law_cell := ⟨fun_mk (st := s__law_cell) l_23 c_23 k_23, PySem.W.mg_of X G a_23⟩
    d__law_draw := ⟨fun_mk (st := s__law_draw) l_24 c_24 k_24, PySem.W.mg_of X G a_24⟩
    d__law_values := ⟨fun_mk (st := s__law_values) l_25 c_25 k_25, PySem.W.mg_of X G a_25⟩
    d__law_frame := ⟨fun_mk (st := s__law_frame) l_26 c_26 k_26, PySem.W.mg_of X G a_26⟩
    d__law_setting := ⟨fun_mk (st := s__law_setting) l_27 c_27 k_27, PySem.W.mg_of X G a_27⟩
    d__law_fact := ⟨fun_mk (st := s__law_fact) l_28 c_28 k_28, PySem.W.mg_of X G a_28⟩
    d__law_rules := ⟨fun_mk (st := s__law_rules) l_29 c_29 k_29, PySem.W.mg_of X G a_29⟩
    d__law_bad_frame := ⟨fun_mk (st := s__law_bad_frame) l_30 c_30 k_30, PySem.W.mg_of X G a_30⟩
    d__law_bad_setting := ⟨fun_mk (st := s__law_bad_setting) l_31 c_31 k_31, PySem.W.mg_of X G a_31⟩
    d__law_bad_fact := ⟨fun_mk (st := s__law_bad_fact) l_32 c_32 k_32, PySem.W.mg_of X G a_32⟩
    d__law_bad_rules := ⟨fun_mk (st := s__law_bad_rules) l_33 c_33 k_33, PySem.W.mg_of X G a_33⟩
    d__law_refused := ⟨fun_mk (st := s__law_refused) l_35 c_35 k_35, PySem.W.mg_of X G a_35⟩
    d__law_right := ⟨fun_mk (st := s__law_right) l_36 c_36 k_36, PySem.W.mg_of X G a_36⟩
    d_law := ⟨fun_mk (st := s_law) l_37 c_37 k_37, PySem.W.mg_of X G a_37⟩
    k_MOST_UNKNOWNS := ⟨_, PySem.W.mg_of X G g_MOST_UNKNOWNS⟩
    k_MOST_LEAST := ⟨_, PySem.W.mg_of X G g_MOST_LEAST⟩
    k_MOST_FACTS := ⟨_, PySem.W.mg_of X G g_MOST_FACTS⟩
    n_ValueError := PySem.W.mg_none_of X G z_ValueError
    n_abs := PySem.W.mg_none_of X G z_abs
    n_all := PySem.W.mg_none_of X G z_all
    n_int := PySem.W.mg_none_of X G z_int
    n_len := PySem.W.mg_none_of X G z_len
    n_list := PySem.W.mg_none_of X G z_list
    n_max := PySem.W.mg_none_of X G z_max
    n_min := PySem.W.mg_none_of X G z_min
    n_range := PySem.W.mg_none_of X G z_range
    n_repr := PySem.W.mg_none_of X G z_repr
    n_str := PySem.W.mg_none_of X G z_str
    n_tuple := PySem.W.mg_none_of X G z_tuple
    n_type := PySem.W.mg_none_of X G z_type
    e_InvalidFrame := by rw [cAt_of (PySem.W.mg_of X G xg_InvalidFrame)]; exact ⟨PySem.W.mg_of X G xg_InvalidFrame, xk_InvalidFrame, xx_InvalidFrame, xb_InvalidFrame, xt_InvalidFrame, ⟨xhg_InvalidFrame, xhk_InvalidFrame, xb_InvalidFrame, xhd_InvalidFrame, xha_InvalidFrame, xhn_InvalidFrame, xht_InvalidFrame, xhm_InvalidFrame⟩, xv_InvalidFrame⟩
    e_PaintError := by rw [cAt_of (PySem.W.mg_of X G xg_PaintError)]; exact ⟨PySem.W.mg_of X G xg_PaintError, xk_PaintError, xx_PaintError, xb_PaintError, xt_PaintError, ⟨xhg_PaintError, xhk_PaintError, xb_PaintError, xhd_PaintError, xha_PaintError, xhn_PaintError, xht_PaintError, xhm_PaintError⟩, xv_PaintError⟩
    p_InvalidFrame := by rw [cAt_of (PySem.W.mg_of X G xg_InvalidFrame)]; exact ⟨PySem.W.mg_of X G xg_InvalidFrame, xb_InvalidFrame, xhd_InvalidFrame, xt_InvalidFrame⟩
    s_InvalidFrame_InvalidFrame := by rw [cAt_of (PySem.W.mg_of X G xg_InvalidFrame)]; exact xs_InvalidFrame_InvalidFrame
  }
  exact ⟨PySem.W.fnOf "law" "law" (defArgs s_law) (defBody s_law) (defScope s_law) .none kV37 dc37 pm37 an37 cd37 ct37, fun s v => .of_eq rfl, fun base _ _ => ok_law T⟩
theorem walk {l : PySem.W.OpenLaw} {q : Program} {loose : List Str} {XP : (Str → Option Value) → Heap → Prop} {YP : World → Heap → Prop} {d : DefRec} {K : Params → PySem.W.Frag} (hn : l.most = some 63) (hdf : d.params.defaults = [])
    (hY : ∀ (w : World) (h : Heap), YP w h → (K w.params).In h)
    (F : ∀ (w : World) (mg : Str → Option Value) (fa : Addr) (h : Heap), (K w.params).In h → h.Ns mainGlobals mg → mg d.name = some (.ref fa) →
      ∃ fd : FuncData, (∀ (s : Shared) (u : Value), BindsTo s fd ⟨[u], []⟩ [("script", u)]) ∧ ∀ base : Heap, (K w.params).In base → base.Ns mainGlobals mg → FnG l.prog w (K w.params) mg base CX0 8 fa fd ["script"] (spLaw (K w.params))) :
    PySem.W.WalkO q loose XP YP l.row.toRowW d [] (fun f vs => PySem.call f vs) :=
  walkG (n := 63) (k := 8) (x := "script") (CX := fun _ => CX0) (sp := fun w => spLaw (K w.params)) hn (by decide) hdf ⟨rfl, by decide, by decide⟩ hY F (fun _ _ a ns hl hS => ⟨a, ns, rfl, hS, hl, fun _ => rfl⟩) fun _ _ _ _ _ z => z
end Law
open PySem PySem.W PyProof.Rows in
set_option maxRecDepth 100000 in
set_option maxHeartbeats 0 in
theorem PySem.Challenge.cw_unknowncorners_k08_settings_and_facts_re_holds : PySem.Challenge.rw_unknowncorners_k08_settings_and_facts_re.Holds := by
  w_on; o_law; k_head; (case hw => w_witness2)
  k_fill
  refine Law.walk (l := PySem.Challenge.rw_unknowncorners_k08_settings_and_facts_re) rfl rfl (fun w h Y => PySem.W.kIn_of Y) ?F
  case F =>
    intro w mg fa h KX G hmg
    refine' Law.all_mk KX G hmg ?a_6 ?l_6 ?c_6 ?k_6 ?a_7 ?l_7 ?c_7 ?k_7 ?a_8 ?l_8 ?c_8 ?k_8 ?a_9 ?l_9 ?c_9 ?k_9 ?a_10 ?l_10 ?c_10 ?k_10 ?a_11 ?l_11 ?c_11 ?k_11 ?a_15 ?l_15 ?c_15 ?k_15 ?a_16 ?l_16 ?c_16 ?k_16 ?a_17 ?l_17 ?c_17 ?k_17 ?a_18 ?l_18 ?c_18 ?k_18 ?a_19 ?l_19 ?c_19 ?k_19 ?a_20 ?l_20 ?c_20 ?k_20 ?a_21 ?l_21 ?c_21 ?k_21 ?a_23 ?l_23 ?c_23 ?k_23 ?a_24 ?l_24 ?c_24 ?k_24 ?a_25 ?l_25 ?c_25 ?k_25 ?a_26 ?l_26 ?c_26 ?k_26 ?a_27 ?l_27 ?c_27 ?k_27 ?a_28 ?l_28 ?c_28 ?k_28 ?a_29 ?l_29 ?c_29 ?k_29 ?a_30 ?l_30 ?c_30 ?k_30 ?a_31 ?l_31 ?c_31 ?k_31 ?a_32 ?l_32 ?c_32 ?k_32 ?a_33 ?l_33 ?c_33 ?k_33 ?a_35 ?l_35 ?c_35 ?k_35 ?a_36 ?l_36 ?c_36 ?k_36 ?a_37 ?l_37 ?c_37 ?k_37 ?g_MOST_UNKNOWNS ?g_MOST_LEAST ?g_MOST_FACTS ?z_ValueError ?z_abs ?z_all ?z_int ?z_len ?z_list ?z_max ?z_min ?z_range ?z_repr ?z_str ?z_tuple ?z_type ?xg_InvalidFrame ?xb_InvalidFrame ?xt_InvalidFrame ?xhd_InvalidFrame ?xk_InvalidFrame ?xx_InvalidFrame ?xv_InvalidFrame ?xhg_InvalidFrame ?xhk_InvalidFrame ?xha_InvalidFrame ?xhn_InvalidFrame ?xht_InvalidFrame ?xhm_InvalidFrame ?xs_InvalidFrame_InvalidFrame ?xg_PaintError ?xb_PaintError ?xt_PaintError ?xhd_PaintError ?xk_PaintError ?xx_PaintError ?xv_PaintError ?xhg_PaintError ?xhk_PaintError ?xha_PaintError ?xhn_PaintError ?xht_PaintError ?xhm_PaintError
    (case xg_InvalidFrame => k_is)
    (case xg_PaintError => k_is)
    (case a_6 => k_is)
    (case l_6 => k_is)
    (case c_6 => k_is)
    (case k_6 => k_is)
    (case a_7 => k_is)
    (case l_7 => k_is)
    (case c_7 => k_is)
    (case k_7 => k_is)
    (case a_8 => k_is)
    (case l_8 => k_is)
    (case c_8 => k_is)
    (case k_8 => k_is)
    (case a_9 => k_is)
    (case l_9 => k_is)
    (case c_9 => k_is)
    (case k_9 => k_is)
    (case a_10 => k_is)
    (case l_10 => k_is)
    (case c_10 => k_is)
    (case k_10 => k_is)
    (case a_11 => k_is)
    (case l_11 => k_is)
    (case c_11 => k_is)
    (case k_11 => k_is)
    (case a_15 => k_is)
    (case l_15 => k_is)
    (case c_15 => k_is)
    (case k_15 => k_is)
    (case a_16 => k_is)
    (case l_16 => k_is)
    (case c_16 => k_is)
    (case k_16 => k_is)
    (case a_17 => k_is)
    (case l_17 => k_is)
    (case c_17 => k_is)
    (case k_17 => k_is)
    (case a_18 => k_is)
    (case l_18 => k_is)
    (case c_18 => k_is)
    (case k_18 => k_is)
    (case a_19 => k_is)
    (case l_19 => k_is)
    (case c_19 => k_is)
    (case k_19 => k_is)
    (case a_20 => k_is)
    (case l_20 => k_is)
    (case c_20 => k_is)
    (case k_20 => k_is)
    (case a_21 => k_is)
    (case l_21 => k_is)
    (case c_21 => k_is)
    (case k_21 => k_is)
    (case a_23 => k_is)
    (case l_23 => k_is)
    (case c_23 => k_is)
    (case k_23 => k_is)
    (case a_24 => k_is)
    (case l_24 => k_is)
    (case c_24 => k_is)
    (case k_24 => k_is)
    (case a_25 => k_is)
    (case l_25 => k_is)
    (case c_25 => k_is)
    (case k_25 => k_is)
    (case a_26 => k_is)
    (case l_26 => k_is)
    (case c_26 => k_is)
    (case k_26 => k_is)
    (case a_27 => k_is)
    (case l_27 => k_is)
    (case c_27 => k_is)
    (case k_27 => k_is)
    (case a_28 => k_is)
    (case l_28 => k_is)
    (case c_28 => k_is)
    (case k_28 => k_is)
    (case a_29 => k_is)
    (case l_29 => k_is)
    (case c_29 => k_is)
    (case k_29 => k_is)
    (case a_30 => k_is)
    (case l_30 => k_is)
    (case c_30 => k_is)
    (case k_30 => k_is)
    (case a_31 => k_is)
    (case l_31 => k_is)
    (case c_31 => k_is)
    (case k_31 => k_is)
    (case a_32 => k_is)
    (case l_32 => k_is)
    (case c_32 => k_is)
    (case k_32 => k_is)
    (case a_33 => k_is)
    (case l_33 => k_is)
    (case c_33 => k_is)
    (case k_33 => k_is)
    (case a_35 => k_is)
    (case l_35 => k_is)
    (case c_35 => k_is)
    (case k_35 => k_is)
    (case a_36 => k_is)
    (case l_36 => k_is)
    (case c_36 => k_is)
    (case k_36 => k_is)
    (case a_37 => k_is)
    (case l_37 => k_is)
    (case c_37 => k_is)
    (case k_37 => k_is)
    (case g_MOST_UNKNOWNS => k_is)
    (case g_MOST_LEAST => k_is)
    (case g_MOST_FACTS => k_is)
    (case z_ValueError => k_is)
    (case z_abs => k_is)
    (case z_all => k_is)
    (case z_int => k_is)
    (case z_len => k_is)
    (case z_list => k_is)
    (case z_max => k_is)
    (case z_min => k_is)
    (case z_range => k_is)
    (case z_repr => k_is)
    (case z_str => k_is)
    (case z_tuple => k_is)
    (case z_type => k_is)
    (case xb_InvalidFrame => k_is)
    (case xt_InvalidFrame => k_is)
    (case xhd_InvalidFrame => k_is)
    (case xk_InvalidFrame => k_is)
    (case xx_InvalidFrame => k_exc)
    (case xv_InvalidFrame => k_is)
    (case xhg_InvalidFrame => k_is)
    (case xhk_InvalidFrame => k_is)
    (case xha_InvalidFrame => k_is)
    (case xhn_InvalidFrame => k_is)
    (case xht_InvalidFrame => k_is)
    (case xhm_InvalidFrame => k_is)
    (case xs_InvalidFrame_InvalidFrame => k_is)
    (case xb_PaintError => k_is)
    (case xt_PaintError => k_is)
    (case xhd_PaintError => k_is)
    (case xk_PaintError => k_is)
    (case xx_PaintError => k_exc)
    (case xv_PaintError => k_is)
    (case xhg_PaintError => k_is)
    (case xhk_PaintError => k_is)
    (case xha_PaintError => k_is)
    (case xhn_PaintError => k_is)
    (case xht_PaintError => k_is)
    (case xhm_PaintError => k_is)

