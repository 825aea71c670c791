import PyProof.Rows.All
import Wide.All
import OpenK.AllK
import Wide.FinOn
import HandS.ForMost
import HandS.More
import HandS.IsInst
import HandS.Evl
import HandS.TupAny
import PyProof.ReprRoads
import HandS.Strs
import HandS.SetFor
import HandS.SortInts
import HandS.Dict
import HandS.Zip
import PySem.Challenge.RW_unknowncorners_k10_settings_closed
set_option Elab.async false
set_option linter.all false
set_option maxRecDepth 100000
set_option maxHeartbeats 4000000
namespace U
open PySem L2 Evl

/-! ### data -/
inductive Dt where
  | non | bl (b : Bool) | int (i : Int) | str (x : Str) | lst (xs : List Dt) | tup (xs : List Dt)
mutual
inductive R (H : Hp) : V → Dt → Prop
  | non : R H .non .non
  | bl (b : Bool) : R H (.bl b) (.bl b)
  | int (i : Int) : R H (.int i) (.int i)
  | str (x : Str) : R H (.str x) (.str x)
  | lst {a : Addr} {xs : List V} {ds : List Dt} : H a = some (.lst xs) → RA H xs ds → R H (.ref a) (.lst ds)
  | tup {a : Addr} {xs : List V} {ds : List Dt} : H a = some (.tup xs) → RA H xs ds → R H (.ref a) (.tup ds)
inductive RA (H : Hp) : List V → List Dt → Prop
  | nil : RA H [] []
  | cons {v : V} {vs : List V} {d : Dt} {ds : List Dt} : R H v d → RA H vs ds → RA H (v :: vs) (d :: ds)
end
section
variable {H H' : Hp}
mutual
theorem R.mono (e : Ex H H') : ∀ {v : V} {d : Dt}, R H v d → R H' v d
  | _, _, .non => .non
  | _, _, .bl b => .bl b
  | _, _, .int i => .int i
  | _, _, .str x => .str x
  | _, _, .lst h k => .lst (e _ _ h) (RA.mono e k)
  | _, _, .tup h k => .tup (e _ _ h) (RA.mono e k)
theorem RA.mono (e : Ex H H') : ∀ {v : List V} {d : List Dt}, RA H v d → RA H' v d
  | _, _, .nil => .nil
  | _, _, .cons a b => .cons (R.mono e a) (RA.mono e b)
end
theorem R.lst_inv {v : V} {ds : List Dt} (h : R H v (.lst ds)) : ∃ a xs, v = .ref a ∧ H a = some (.lst xs) ∧ RA H xs ds := by
  cases h with | lst a b => exact ⟨_, _, rfl, a, b⟩
theorem R.tup_inv {v : V} {ds : List Dt} (h : R H v (.tup ds)) : ∃ a xs, v = .ref a ∧ H a = some (.tup xs) ∧ RA H xs ds := by
  cases h with | tup a b => exact ⟨_, _, rfl, a, b⟩
theorem R.int_inv {v : V} {i : Int} (h : R H v (.int i)) : v = .int i := by cases h; rfl
theorem R.bl_inv {v : V} {i : Bool} (h : R H v (.bl i)) : v = .bl i := by cases h; rfl
theorem R.str_inv {v : V} {i : Str} (h : R H v (.str i)) : v = .str i := by cases h; rfl
theorem R.non_inv {v : V} (h : R H v .non) : v = .non := by cases h; rfl
theorem RA.len : ∀ {vs : List V} {ds : List Dt}, RA H vs ds → vs.length = ds.length
  | _, _, .nil => rfl
  | _, _, .cons _ k => by rw [List.length_cons, List.length_cons, RA.len k]
theorem RA.get : ∀ {vs : List V} {ds : List Dt} {i : Nat} {d : Dt}, RA H vs ds → ds[i]? = some d → ∃ v, vs[i]? = some v ∧ R H v d
  | _, _, _, _, .nil, e => by simp at e
  | _, _, 0, d, .cons r _, e => by simp at e; subst e; exact ⟨_, rfl, r⟩
  | _, _, i + 1, d, .cons _ t, e => by
    obtain ⟨u, h1, h2⟩ := RA.get (i := i) (d := d) t (by simpa using e)
    exact ⟨u, by simpa using h1, h2⟩
theorem RA.getV : ∀ {vs : List V} {ds : List Dt} {i : Nat} {v : V}, RA H vs ds → vs[i]? = some v → ∃ d, ds[i]? = some d ∧ R H v d
  | _, _, _, _, .nil, e => by simp at e
  | _, _, 0, d, .cons r _, e => by simp at e; subst e; exact ⟨_, rfl, r⟩
  | _, _, i + 1, d, .cons _ t, e => by
    obtain ⟨u, h1, h2⟩ := RA.getV (i := i) (v := d) t (by simpa using e)
    exact ⟨u, by simpa using h1, h2⟩
theorem RA.append : ∀ {vs ws : List V} {ds es : List Dt}, RA H vs ds → RA H ws es → RA H (vs ++ ws) (ds ++ es)
  | _, _, _, _, .nil, k => k
  | _, _, _, _, .cons a b, k => .cons a (RA.append b k)
theorem RA.one {v : V} {d : Dt} (h : R H v d) : RA H [v] [d] := .cons h .nil
theorem RA.ints : ∀ (ns : List Int), RA H (ns.map V.int) (ns.map Dt.int)
  | [] => .nil
  | n :: ns => .cons (.int n) (RA.ints ns)
theorem RA.ints_inv : ∀ {ns : List Int} {vs : List V}, RA H vs (ns.map Dt.int) → vs = ns.map V.int
  | [], _, .nil => rfl
  | n :: ns, _, .cons a b => by rw [R.int_inv a, RA.ints_inv b]; rfl
theorem RA.bls_inv {α : Type} {p : α → Bool} : ∀ {ns : List α} {vs : List V}, RA H vs (ns.map fun a => Dt.bl (p a)) → vs = (ns.map p).map V.bl
  | [], _, .nil => rfl
  | n :: ns, _, .cons a b => by rw [R.bl_inv a, RA.bls_inv b]; rfl
theorem RA.intsf_inv {α : Type} {p : α → Int} : ∀ {ns : List α} {vs : List V}, RA H vs (ns.map fun a => Dt.int (p a)) → vs = (ns.map p).map V.int
  | [], _, .nil => rfl
  | n :: ns, _, .cons a b => by rw [R.int_inv a, RA.intsf_inv b]; rfl
end

/-! ### data that can be shown -/
mutual
def Dt.py : Dt → PyData
  | .non => .none
  | .bl b => .bool b
  | .int i => .int i
  | .str x => .str x
  | .lst xs => .list (pyAll xs)
  | .tup xs => .tuple (pyAll xs)
def pyAll : List Dt → List PyData
  | [] => []
  | x :: xs => Dt.py x :: pyAll xs
end
section
variable {K : PySem.W.Frag} {H : Hp}
mutual
theorem R.dp : ∀ {v : V} {d : Dt}, R H v d → Dp K H v d.py
  | _, _, .non => by rw [Dt.py]; exact .non
  | _, _, .bl b => by rw [Dt.py]; exact .bl b
  | _, _, .int b => by rw [Dt.py]; exact .int b
  | _, _, .str b => by rw [Dt.py]; exact .str b
  | _, _, .lst h k => by rw [Dt.py]; exact .lst (SqL.of h) (RA.dp k)
  | _, _, .tup h k => by rw [Dt.py]; exact .tup (SqT.of h) (RA.dp k)
theorem RA.dp : ∀ {v : List V} {d : List Dt}, RA H v d → DpAll K H v (pyAll d)
  | _, _, .nil => by rw [pyAll]; exact .nil
  | _, _, .cons a b => by rw [pyAll]; exact .cons (R.dp a) (RA.dp b)
end
end

mutual
def Dt.fit : Dt → Bool
  | .non | .bl _ => true
  | .str x => x.cps.toList.all fun c => decide (c < 16 ^ 8)
  | .int i => decide (i.natAbs < 10 ^ 60)
  | .lst xs | .tup xs => fitAll xs
def fitAll : List Dt → Bool
  | [] => true
  | x :: xs => Dt.fit x && fitAll xs
end
mutual
def Dt.wt : Dt → Nat
  | .non | .bl _ | .int _ => 1
  | .str x => x.length + 1
  | .lst xs | .tup xs => wtAll xs + 1
def wtAll : List Dt → Nat
  | [] => 0
  | x :: xs => Dt.wt x + wtAll xs
end
mutual
def Dt.dep : Dt → Nat
  | .non | .bl _ | .int _ | .str _ => 0
  | .lst xs | .tup xs => depAll xs + 1
def depAll : List Dt → Nat
  | [] => 0
  | x :: xs => max (Dt.dep x) (depAll xs)
end
theorem strip_int {i : Int} (h : i.natAbs < 10 ^ 60) : (PyData.shown (.int i)).length ≤ 61 := by
  have h2 := PySem.int_text_length_le10 (a := i) (k := 60) (by decide) h
  rw [PyData.shown]
  have e : ((toString i : Str)).length = (toString i : String).length := by
    exact PySem.ofString_length _
  omega
theorem log_60 {i : Int} (h : i.natAbs < 10 ^ 60) : i.natAbs.log2 < 1920 := by
  by_cases h0 : i.natAbs = 0
  · rw [h0]; decide
  · exact (Nat.log2_lt h0).mpr (Nat.lt_trans h (by decide))
mutual
theorem shown_sz : ∀ d : Dt, d.fit = true → d.py.shown.length ≤ 74 * d.wt - 2
  | .non, _ => by decide +kernel
  | .bl b, _ => by cases b <;> decide +kernel
  | .int i, h => by
    have := strip_int (i := i) (by simpa [Dt.fit] using h)
    rw [Dt.py, Dt.wt]; omega
  | .str x, h => by
    have h1 : ∀ c ∈ x.cps.toList, c < 16 ^ 8 := fun c hc => of_decide_eq_true (List.all_eq_true.mp (by rw [Dt.fit] at h; exact h) c hc)
    have h2 := StrLaws.reprText_len x h1
    rw [Dt.py, Dt.wt, PyData.shown]; omega
  | .lst xs, h => by
    have h1 := shownAll_sz xs (by simpa [Dt.fit] using h)
    have h2 := listText_len_le (PyData.shownAll (pyAll xs))
    rw [Dt.py, Dt.wt, PyData.shown]
    omega
  | .tup xs, h => by
    have h1 := shownAll_sz xs (by simpa [Dt.fit] using h)
    have h2 := tupleText_len_le (PyData.shownAll (pyAll xs))
    rw [Dt.py, Dt.wt, PyData.shown]
    omega
theorem shownAll_sz : ∀ xs : List Dt, fitAll xs = true → ((PyData.shownAll (pyAll xs)).map (·.length)).sum + 2 * (PyData.shownAll (pyAll xs)).length ≤ 74 * wtAll xs
  | [], _ => by simp [pyAll, PyData.shownAll]
  | x :: xs, h => by
    have h' : x.fit = true ∧ fitAll xs = true := by simpa [fitAll] using h
    have h1 := shown_sz x h'.1
    have h2 := shownAll_sz xs h'.2
    rw [pyAll, PyData.shownAll, wtAll, List.map_cons, List.sum_cons, List.length_cons]
    have h3 : 1 ≤ x.wt := by cases x <;> simp [Dt.wt]
    omega
end
mutual
theorem showable_fit : ∀ d : Dt, d.fit = true → d.py.showable = true
  | .non, _ => by rw [Dt.py, PyData.showable]
  | .bl b, _ => by rw [Dt.py, PyData.showable]
  | .int i, h => by
    rw [Dt.py, PyData.showable]
    exact decide_eq_true (log_60 (of_decide_eq_true (by rw [Dt.fit] at h; exact h)))
  | .str x, h => by rw [Dt.py, PyData.showable]
  | .lst xs, h => by rw [Dt.py, PyData.showable]; exact showableAll_fit xs (by rw [Dt.fit] at h; exact h)
  | .tup xs, h => by rw [Dt.py, PyData.showable]; exact showableAll_fit xs (by rw [Dt.fit] at h; exact h)
theorem showableAll_fit : ∀ xs : List Dt, fitAll xs = true → PyData.showableAll (pyAll xs) = true
  | [], _ => by rw [pyAll, PyData.showableAll]
  | x :: xs, h => by
    have h' : x.fit = true ∧ fitAll xs = true := by simpa [fitAll] using h
    rw [pyAll, PyData.showableAll, showable_fit x h'.1, showableAll_fit xs h'.2]; rfl
end
mutual
theorem noDict_py : ∀ d : Dt, d.py.hasDict = false
  | .non => by rw [Dt.py, PyData.hasDict]
  | .bl b => by rw [Dt.py, PyData.hasDict]
  | .int i => by rw [Dt.py, PyData.hasDict]
  | .str x => by rw [Dt.py, PyData.hasDict]
  | .lst xs => by rw [Dt.py, PyData.hasDict]; exact noDict_all xs
  | .tup xs => by rw [Dt.py, PyData.hasDict]; exact noDict_all xs
theorem noDict_all : ∀ xs : List Dt, PyData.hasDictAll (pyAll xs) = false
  | [] => by rw [pyAll, PyData.hasDictAll]
  | x :: xs => by rw [pyAll, PyData.hasDictAll, noDict_py x, noDict_all xs]; rfl
end
mutual
theorem dep_py : ∀ d : Dt, d.py.depth = d.dep
  | .non => by simp only [Dt.py, PyData.depth, Dt.dep]
  | .bl b => by simp only [Dt.py, PyData.depth, Dt.dep]
  | .int i => by simp only [Dt.py, PyData.depth, Dt.dep]
  | .str x => by simp only [Dt.py, PyData.depth, Dt.dep]
  | .lst xs => by simp only [Dt.py, PyData.depth, Dt.dep, dep_all xs]
  | .tup xs => by simp only [Dt.py, PyData.depth, Dt.dep, dep_all xs]
theorem dep_all : ∀ xs : List Dt, PyData.depthAll (pyAll xs) = depAll xs
  | [] => by simp only [pyAll, PyData.depthAll, depAll]
  | x :: xs => by simp only [pyAll, PyData.depthAll, depAll, dep_py x, dep_all xs]
end
/-- what can be shown -/
structure Fit (d : Dt) : Prop where
  fit : d.fit = true
  wt : d.wt ≤ 200000
  dep : d.dep ≤ 60
def isSeq : Dt → Bool
  | .lst _ | .tup _ => true
  | _ => false
/-- repr(x), x a list or a tuple -/
def rRepr (H : Hp) (xs : List V) (Q : VK) : Prop := ∃ x d, xs = [x] ∧ R H x d ∧ isSeq d = true ∧ Fit d ∧ Q (.str d.py.shown) H
theorem call_repr {X : Cx} (hg : X.A.guards = some []) (hu : X.A.units + 64 < cLine) : CallR X (.builtin "repr") (fun xs H Q => rRepr H xs Q) := by
  intro pins s σ H xs us Q I r h
  obtain ⟨x, d, rfl, rx, hq, f, q⟩ := h
  obtain ⟨u, rfl, rv⟩ := vals1 r
  obtain ⟨as, rd⟩ := Dp.reads I d.py x u (R.dp rx) rv
  have hd : ∃ a, u = .ref a := by
    cases rx with
    | lst _ _ => exact ⟨_, rv⟩
    | tup _ _ => exact ⟨_, rv⟩
    | non => cases hq
    | bl _ => cases hq
    | int _ => cases hq
    | str _ => cases hq
  obtain ⟨a, rfl⟩ := hd
  have hs := shown_sz d f.fit
  have hw := f.wt
  have hdep := f.dep
  refine repr_of_reads' rd (showable_fit d f.fit) (PyData.noDict_hsm (noDict_py d)) hg (by rw [dep_py]; omega) (fun _ _ e => e) (fun h' t tk hk => ?_) (by rw [sizeLine_eq]; omega)
  exact ⟨.str _, H, I.kept hk, ⟨_, rfl⟩, q⟩
end U

namespace U
open PySem PySem.Spec PyProof.Rows L2

section
variable {P : Program} {w : World} {K : PySem.W.Frag} {mg : Str → Option Value} {base : Heap} {CX : CXT}
/-- a def keeps its promise wherever no repr runs around it -/
structure FnG (P : Program) (w : World) (K : PySem.W.Frag) (mg : Str → Option Value) (base : Heap) (CX : CXT) (k : Nat) (f : Addr) (fd : FuncData) (ps : List Str) (sp : Sp) : Prop where
  long : ∀ as H Q E, sp as H Q E → as.length = ps.length
  goes : ∀ (Γ : Around), Γ.guards = some [] → Room k Γ → ∀ (below : List Env) (st : Shared) (H : Hp), Env0 P w K mg base Γ below st H →
    ∀ (given : Args) (us : List Value) (as : List V), BindsTo st fd given (ps.zip us) → Vals as us → ∀ (Q : VK) (E : XK), sp as H Q E →
      codeAny (model P w) Γ (.call (.ref f) given) (CR CX below P w H st Q E) st
theorem FnG.up {j k : Nat} {f : Addr} {fd : FuncData} {ps : List Str} {sp : Sp} (F : FnG P w K mg base CX j f fd ps sp) (h : j ≤ k) : FnG P w K mg base CX k f fd ps sp :=
  ⟨F.long, fun Γ g r => F.goes Γ g (r.mono h)⟩
theorem deep_guards {Γ : Around} {env : Env} (h : Γ.guards = some []) : (Γ.deeper env).guards = some [] := h

/-- a def by its body -/
theorem fnG_of {k : Nat} {f : Addr} {name qual : Str} {params : Arguments} {body : List Stmt} {scope : Scope} {v1 v2 v3 v4 cdv v5 v6 : Value} {o1 o2 : Option Addr}
    {slots : Array (Option Value)} {N ps : List Str} {sp : Sp}
    (there : K.lookup f = some ⟨v6, o2, .func (PySem.W.fnOf name qual params body scope v1 v2 v3 v4 o1 cdv v5), slots⟩) (code : PySem.W.codeIn K cdv qual = true) (S : FnScope N ps scope)
    (long : ∀ as H Q E, sp as H Q E → as.length = ps.length)
    (inside : ∀ (Γ : Around) (below : List Env) (st : Shared) (H : Hp) (as : List V) (Q : VK) (E : XK), Γ.guards = some [] →
      Room k (Γ.deeper (envOfC qual scope st.heap.objs.size f cdv)) → sp as H Q E →
      ∃ t, PSs (cxOf CX P w K mg base N qual scope f cdv Γ below st H E) body t ∧ t { nx := fun _ H' => Q .non H', rt := Q } (start N as) H) :
    FnG P w K mg base CX (k + 1) f (PySem.W.fnOf name qual params body scope v1 v2 v3 v4 o1 cdv v5) ps sp := by
  constructor
  · exact long
  intro Γ g room below st H e0 given us as hb hv Q E asked
  have many := long as H Q E asked
  have kin : K.In st.heap := e0.mod.kin.keeps (fun b o z => (e0.bs b o z).1)
  have free : st.heap.NoLimit := e0.mod.nolimit.keeps (fun b o z => (e0.bs b o z).1)
  have names : ∀ y ∈ ps.zip us, scope.names.lookup y.1 = some .local ∨
      (scope.names.lookup y.1 = some .cell ∧ ((cellsFrom (st.heap.objs.size + 1) scope.names []).lookup y.1).isSome = true) := by
    rintro ⟨n, u⟩ hy
    exact (S.par n (List.of_mem_zip hy).1).elim .inl fun z => .inr ⟨z, PySem.W.cellsFrom_some _ _ _ (.inl z)⟩
  apply codeAny_call_function room.depth (kin _ _ there) rfl S.co S.gen rfl (PySem.W.codeRec_of kin code) (hb _ _ _ _ _)
  apply wpAny_newFunctionEnv_cells S.kind names
  rintro env rfl s1 x
  refine ⟨free.keeps x.toInCall.keep, codeAny_func ?_⟩
  obtain ⟨t, derived, reads⟩ := inside Γ below st H as Q E g (room.deeper _) asked
  have I := inv_start (CX := CX) (P := P) (w := w) (K := K) (mg := mg) (base := base) (E := E) S room.hd e0 many hv x
  have back : ∀ {σ' : L2.St} {H' : Hp} {v : V} {u : Value} {s' : Shared}, Inv (cxOf CX P w K mg base N qual scope f cdv Γ below st H E) [] σ' H' s' →
      RelV v u → Q v H' → CE below P w H st Q u s' := by
    intro σ' H' v u s' J rv q
    exact ⟨v, H', J.os, J.bare, J.base, J.hok, rv, q⟩
  refine wpAny_mono (derived.run [] s1 (start N as) H _ I reads) (fun fl s' hs => ?_) (fun _ _ z => z)
  match fl, hs with
  | .next, ⟨_, _, J, q⟩ => exact back (v := V.non) (u := Value.none) J rfl q
  | .ret u, ⟨_, _, _, J, rv, q⟩ => exact back J rv q
  | .brk, ⟨_, _, _, q⟩ => exact q.elim
  | .cont, ⟨_, _, _, q⟩ => exact q.elim

/-! ### calls -/
section
variable {X : Cx} {k : Nat} {f : Addr} {fd : FuncData} {ps : List Str} {sp : Sp} {E : XK} {x : Str} {p pos : Pos} {e : Expr} {es : List Expr} {kws : List Keyword} {t tk : TA}
theorem gone {pins : List (Addr × Obj)} {σ : L2.St} {H : Hp} {s : Shared} {Q : VK} {given : Args} {us : List Value} {as : List V} (F : FnG X.prog X.w X.K X.mg X.base CX k f fd ps sp) (g : X.A.guards = some []) (room : Room k X.A)
    (pass : Passes CX X E) (I : Inv X pins σ H s) (hb : BindsTo s fd given (ps.zip us)) (hv : Vals as us) (asked : sp as H Q E) :
    codeAny (model X.prog X.w) X.A (.call (.ref f) given) (fun r s' => match r with | .ok (.ret u) => EP X pins σ Q u s' | .ok _ => False | .error z => X.xe z s') s := by
  refine codeAny_mono (F.goes X.A g room X.stack s H I.env0 given us as hb hv Q E asked) (fun r s' z => ?_)
  match r, z with
  | .error a, z => exact pass pins σ H s a s' I z
  | .ok (.ret u), z => exact I.after z
  | .ok .next, z => exact z.elim
  | .ok .brk, z => exact z.elim
  | .ok .cont, z => exact z.elim
/-- f(e, ..) -/
theorem pe_go (F : FnG X.prog X.w X.K X.mg X.base CX k f fd ps sp) (g : X.A.guards = some []) (room : Room k X.A) (glob : Gl X x) (at_ : X.mg x = some (.ref f)) (kept : PySem.W.keepIn X.K (.ref f) = true)
    (hb : Binds X.K fd ps []) (pass : Passes CX X E) (ha : PA X (e :: es) t) (nd : (x == ("__debug__" : Str)) = false := by decide)
    (he : starEach (e :: es) X.env = (false, eval e X.env) :: starEach es X.env := by rfl) (plain : (backTo pos (starEach es X.env)).any (·.1) = false := by rfl) :
    PE X (.Call (.Name x p) (e :: es) [] pos) (tCall sp [] E t) := by
  constructor
  intro pins s σ H Q I h
  apply wpAny_Call_Name_kw (ld_glob I glob at_ _ nd)
  refine PySem.W.callWith_K (h₀ := X.base) I.ok.mod.kin kept (thn (ha.run pos pins s σ H _ I h) ?_) he plain
  rintro us s1 ⟨as, H1, I1, rv, asked⟩
  rw [List.append_nil] at asked
  have many : us.length = ps.length := by rw [← rv.length]; exact F.long _ _ _ _ asked
  have bound := hb s1 us I1.kIn (by simpa using many)
  rw [List.append_nil] at bound
  exact ⟨I1.kIn, wpAny_call (gone F g room pass I1 bound rv asked)⟩
/-- f(e, .., k = v, ..) -/
theorem pe_goK {ks : List Str} {gg : List Value → List Value → List Value} {gV : List V → List V → List V} (F : FnG X.prog X.w X.K X.mg X.base CX k f fd ps sp) (g : X.A.guards = some []) (room : Room k X.A) (glob : Gl X x) (at_ : X.mg x = some (.ref f))
    (kept : PySem.W.keepIn X.K (.ref f) = true) (hb : KBinds X.K fd ps ks gg gV) (pass : Passes CX X E) (ha : PA X (e :: es) t) (hk : PK X kws tk) (all : (backToKw pos (keywordEach kws X.env)).all (·.1.isSome) = true := by rfl)
    (names : (backToKw pos (keywordEach kws X.env)).filterMap (·.1) = ks := by rfl) (nd : (x == ("__debug__" : Str)) = false := by decide) (he : starEach (e :: es) X.env = (false, eval e X.env) :: starEach es X.env := by rfl)
    (plain : ((backTo pos (starEach (e :: es) X.env)).any (·.1) || (backToKw pos (keywordEach kws X.env)).any (·.1.isNone)) = false := by rfl) :
    PE X (.Call (.Name x p) (e :: es) kws pos) (tCallK sp gV E t tk) := by
  constructor
  intro pins s σ H Q I h
  apply wpAny_Call_Name_kw (ld_glob I glob at_ _ nd)
  refine PySem.W.callWith_KW (h₀ := X.base) I.ok.mod.kin kept all (thn (ha.run pos pins s σ H _ I h) ?_) plain he
  rintro us s1 ⟨as, H1, I1, rv, q⟩
  refine thn (hk.run pos pins s1 σ H1 _ I1 q) ?_
  rintro ws s2 ⟨zs, H2, I2, rz, asked⟩
  rw [names]
  have both := hb.rel rv rz
  have many : (gg us ws).length = ps.length := by rw [← both.length]; exact F.long _ _ _ _ asked
  exact ⟨I2.kIn, wpAny_call (gone F g room pass I2 (hb.to s2 us ws I2.kIn many) both asked)⟩
/-- f(k = v, ..), no argument by position -/
theorem pe_goN {ks : List Str} {gg : List Value → List Value → List Value} {gV : List V → List V → List V} (F : FnG X.prog X.w X.K X.mg X.base CX k f fd ps sp) (g : X.A.guards = some []) (room : Room k X.A) (glob : Gl X x) (at_ : X.mg x = some (.ref f))
    (kept : PySem.W.keepIn X.K (.ref f) = true) (hb : KBinds X.K fd ps ks gg gV) (pass : Passes CX X E) (hk : PK X kws tk) (all : (backToKw pos (keywordEach kws X.env)).all (·.1.isSome) = true := by rfl)
    (names : (backToKw pos (keywordEach kws X.env)).filterMap (·.1) = ks := by rfl) (nd : (x == ("__debug__" : Str)) = false := by decide)
    (plain : ((backTo pos (starEach [] X.env)).any (·.1) || (backToKw pos (keywordEach kws X.env)).any (·.1.isNone)) = false := by rfl) :
    PE X (.Call (.Name x p) [] kws pos) (tCallK sp gV E tNil tk) := by
  constructor
  intro pins s σ H Q I h
  apply wpAny_Call_Name_kw (ld_glob I glob at_ _ nd)
  refine PySem.W.callWith_KW0 (h₀ := X.base) I.ok.mod.kin kept all (thn (hk.run pos pins s σ H _ I h) ?_) plain
  rintro ws s2 ⟨zs, H2, I2, rz, asked⟩
  rw [names]
  have both := hb.rel (vs := []) (us := []) .nil rz
  have many : (gg [] ws).length = ps.length := by rw [← both.length]; exact F.long _ _ _ _ asked
  exact ⟨I2.kIn, wpAny_call (gone F g room pass I2 (hb.to s2 [] ws I2.kIn many) both asked)⟩
end
end

/-! ### the end: the law's own call -/
section
variable {P : Program} {w : World} {K : PySem.W.Frag} {mg : Str → Option Value} {CX : CXT}
/-- the script alone is told, or nothing -/
def onlyAt (a : Addr) (u : Option HO) : Hp := fun b => if b = a then u else none
theorem onlyAt_same {a : Addr} {u : Option HO} : onlyAt a u a = u := if_pos rfl
theorem onlyAt_ne {a b : Addr} {u : Option HO} (h : b ≠ a) : onlyAt a u b = none := if_neg h

theorem law_goes {k : Nat} {fa a : Addr} {fd : FuncData} {x : Str} {sp : Sp} {st : Shared} {us : List Value} {ns : List Int} {mb : Str → Option Value} {u : Option HO}
    (kin : K.In st.heap) (glob : st.heap.Ns mainGlobals mg) (blt : st.heap.Ns builtinsNs mb) (boot : ∀ y : Str, y ≠ "__name__" → mb y = bootBuiltins y) (free : st.heap.NoLimit) (nogen : st.gens = #[])
    (list : st.heap.get? a = some { cls := .type "list", data := .seq us.toArray }) (nums : IntsAre us ns) (short : ns.length ≤ sizeLine) (room : Room k callerA)
    (told : u = none ∨ (u = some (.frz { cls := .type "list", data := .seq us.toArray } (.lst (ns.map V.int))) ∧ K.lookup a = none))
    (F : ∀ base : Heap, K.In base → base.Ns mainGlobals mg → FnG P w K mg base CX k fa fd [x] sp) (bind : ∀ (s : Shared) (y : Value), BindsTo s fd ⟨[y], []⟩ [(x, y)])
    (asked : sp [.ref a] (onlyAt a u) (fun v _ => v = .bl true) fun _ _ _ => False) (quiet : ∀ H e s', CX [] H st (fun _ _ _ => False) e s' → False) :
    codeAny (model P w) callerA (.call (.ref fa) ⟨[.ref a], []⟩) (fun r s' => r = .ok (.ret (.bool true)) ∧ OldK st.heap s'.heap ∧ s'.os = st.os ∧ AllBare s'.gens) st := by
  have vals := vals_ints nums
  have held : HOk P w (onlyAt a u) st.heap := by
    intro b o q
    by_cases hb : b = a
    · rw [hb, onlyAt_same] at q
      rcases told with z | ⟨z, _⟩
      · rw [z] at q; cases q
      · rw [z] at q
        cases q
        rw [hb]
        exact ⟨list, by rw [List.length_map]; exact short, us, _, vals, list⟩
    · rw [onlyAt_ne hb] at q; cases q
  have away : ∀ {b : Addr} {o : Obj}, st.heap.get? b = some o → (b = a → u = none) → (hidT st.heap (onlyAt a u)).get? b = some o := by
    intro b o e h
    refine hidT_get e ?_
    by_cases hb : b = a
    · rw [hb, onlyAt_same]; exact h hb
    · exact onlyAt_ne hb
  have spaces : ∀ {b : Addr} {m : Str → Option Value}, st.heap.Ns b m → (hidT st.heap (onlyAt a u)).Ns b m := by
    rintro b m ⟨o, es, ep, e, d, r⟩
    refine ⟨o, es, ep, away e (fun hb => ?_), d, r⟩
    rw [hb, list] at e
    cases e
    exact nomatch d
  have kin' : K.In (hidT st.heap (onlyAt a u)) := by
    intro b o e
    refine away (kin b o e) (fun hb => ?_)
    rcases told with z | ⟨_, z⟩
    · exact z
    · rw [hb, z] at e; cases e
  have around : Env0 P w K mg (hidT st.heap (onlyAt a u)) callerA [] st (onlyAt a u) := {
    frames := rfl
    mod := ⟨kin', spaces glob, ⟨mb, spaces blt, boot⟩, free.elim fun mc z => ⟨mc, spaces z.1, z.2⟩⟩
    bs := fun b o e => of_hidT e
    bsz := Nat.le_of_eq (hidT_size _ _)
    funs := trivial
    frf := fun b z => nomatch z
    hok := held
    bare := .of_eq nogen }
  have run := (F _ kin' (spaces glob)).goes callerA rfl room [] st _ around ⟨[.ref a], []⟩ [.ref a] [.ref a] (bind st (.ref a)) (.cons rfl .nil) _ _ asked
  refine codeAny_mono run (fun r s' z => ?_)
  match r, z with
  | .error e, z => exact (quiet _ e s' z).elim
  | .ok .next, z => exact z.elim
  | .ok .brk, z => exact z.elim
  | .ok .cont, z => exact z.elim
  | .ok (.ret y), ⟨v, H', os, bare, un, held', ry, q⟩ =>
    have q : v = .bl true := q
    rw [q] at ry
    have ry : y = Value.bool true := ry
    rw [ry]
    refine ⟨rfl, OldK.of_keep (fun b o e => ?_), os, bare⟩
    by_cases hb : b = a ∧ u ≠ none
    · rcases told with z | ⟨z, _⟩
      · exact absurd z hb.2
      · have f0 : onlyAt a u a = some (.frz { cls := .type "list", data := .seq us.toArray } (.lst (ns.map V.int))) := onlyAt_same.trans z
        have f1 := (held' a _ (un.frzs a _ _ f0)).1
        rw [hb.1] at e ⊢
        rw [list] at e
        cases e
        exact f1
    · refine un.keep b o e ?_ (fun z => nomatch z) (fun z => nomatch z)
      by_cases hb' : b = a
      · rw [hb', onlyAt_same]
        exact Classical.byContradiction fun z => hb ⟨hb', z⟩
      · exact onlyAt_ne hb'

/-- what the law is told of its script -/
def Scr (K : PySem.W.Frag) (a : Addr) (ns : List Int) (H : Hp) : Prop := SqL K H a (ns.map V.int) ∧ ∀ b o, H b = some o → b = a
theorem walkG {l : PySem.W.OpenLaw} {n k : Nat} {q : Program} {loose : List Str} {XP : (Str → Option Value) → Heap → Prop} {YP : World → Heap → Prop} {d : DefRec} {K : Params → PySem.W.Frag} {CX : World → CXT} {sp : World → Sp} {x : Str}
    (most : l.most = some n) (line : n ≤ sizeLine) (plain : d.params.defaults = []) (room : Room k callerA) (has : ∀ (w : World) (h : Heap), YP w h → (K w.params).In h)
    (F : ∀ (w : World) (mg : Str → Option Value) (fa : Addr) (h : Heap), (K w.params).In h → h.Ns mainGlobals mg → mg d.name = some (.ref fa) → ∃ fd : FuncData, (∀ (s : Shared) (u : Value), BindsTo s fd ⟨[u], []⟩ [(x, u)]) ∧
        ∀ base : Heap, (K w.params).In base → base.Ns mainGlobals mg → FnG l.prog w (K w.params) mg base (CX w) k fa fd [x] (sp w))
    (asked : ∀ (w : World) (H : Hp) (a : Addr) (ns : List Int), ns.length ≤ n → Scr (K w.params) a ns H → sp w [.ref a] H (fun v _ => v = .bl true) fun _ _ _ => False)
    (quiet : ∀ (w : World) (H : Hp) (s : Shared) (e : Value) (s' : Shared), CX w [] H s (fun _ _ _ => False) e s' → False) :
    PySem.W.WalkO q loose XP YP l.row.toRowW d [] (fun f vs => PySem.call f vs) := by
  apply Att.attach_call most plain
  intro w s₀ st mg mb fa o pm cd doc a us ns G Y ho hd hcd hmg list nums long nogen
  have kin := has w _ Y
  obtain ⟨fd, bind, ok⟩ := F w mg fa _ kin G.T.g hmg
  have short := Nat.le_trans long line
  cases e : (K w.params).lookup a with
  | none =>
    exact law_goes kin G.T.g G.T.b G.T.builtins G.T.nolimit nogen list nums short room (.inr ⟨rfl, e⟩) ok bind
      (asked w _ a ns long ⟨.inl (.inr ⟨_, onlyAt_same⟩), fun b o z => Classical.byContradiction fun h => by rw [onlyAt_ne h] at z; cases z⟩) (fun H e s' => quiet w H st e s')
  | some ob =>
    have same := kin a ob e
    rw [list] at same
    cases same
    refine law_goes kin G.T.g G.T.b G.T.builtins G.T.nolimit nogen list nums short room (.inl rfl) ok bind
      (asked w _ a ns long ⟨.inr ⟨_, us.toArray, _, e, rfl, rfl, rfl, ?_, ?_⟩, fun b o z => ?_⟩) (fun H e s' => quiet w H st e s')
    · rw [List.size_toArray, nums.length]; exact short
    · simpa using vals_ints nums
    · by_cases h : b = a
      · exact h
      · rw [onlyAt_ne h] at z; cases z
end
end U

namespace U
open PySem L2 Evl

/-- from (B, H) to (B', H'): B' is B and some that is new behind H -/
structure New (B H B' H' : Hp) : Prop where
  ext : Ex B B'
  sub : Ex B' H'
  heap : Ex H H'
  fresh : ∀ a, B a = none → H a ≠ none → B' a = none
section
variable {B H B1 H1 B2 H2 : Hp}
theorem New.refl (e : Ex B H) : New B H B H := ⟨Ex.refl _, e, Ex.refl _, fun _ h _ => h⟩
theorem New.trans (a : New B H B1 H1) (b : New B1 H1 B2 H2) : New B H B2 H2 :=
  ⟨a.ext.trans b.ext, b.sub, a.heap.trans b.heap, fun p h1 h2 => b.fresh p (a.fresh p h1 h2) fun h3 => by
    cases q : H p with
    | none => exact h2 q
    | some o => rw [a.heap p o q] at h3; cases h3⟩
theorem New.grow (e : Ex B H1) (h : Ex H H1) (e0 : Ex B H) : New B H B H1 := ⟨Ex.refl _, e, h, fun _ h _ => h⟩
/-- one new object -/
theorem New.one {p : Addr} {o : HO} (e : Ex B H) (h : H p = none) : New B H (upd B p o) (upd H p o) := by
  have hb : B p = none := fresh_back e h
  refine ⟨Ex.new hb, fun a u q => ?_, Ex.new h, fun a h1 h2 => ?_⟩
  · by_cases ha : a = p
    · subst ha; rw [upd_same] at q ⊢; exact q
    · rw [upd_ne ha] at q ⊢; exact e a u q
  · rw [upd_ne (fun z => by subst z; exact h2 h)]; exact h1
/-- what may be read in either -/
def join (B C : Hp) : Hp := fun a => match B a with | some o => some o | none => C a
theorem join_l : Ex B (join B B1) := fun a o h => by unfold join; rw [h]
theorem join_r (h1 : Ex B H) (h2 : Ex B1 H) : Ex B1 (join B B1) := fun a o h => by
  unfold join
  cases q : B a with
  | none => exact h
  | some u =>
    have x := h1 a u q
    rw [h2 a o h] at x
    exact x.symm
theorem join_sub (h1 : Ex B H) (h2 : Ex B1 H) : Ex (join B B1) H := fun a o h => by
  unfold join at h
  cases q : B a with
  | none => rw [q] at h; exact h2 a o h
  | some u => rw [q] at h; cases h; exact h1 a _ q
end

def EvR (te : TE) (σ : L2.St) (B : Hp) (d : Dt) : Prop := ∀ H1, Ex B H1 → ∀ Q : VK, (∀ v B2 H2, New B H1 B2 H2 → R B2 v d → Q v H2) → te σ H1 Q
def EvRA (ta : TA) (σ : L2.St) (B : Hp) (ds : List Dt) : Prop := ∀ H1, Ex B H1 → ∀ Q : List V → Hp → Prop, (∀ vs B2 H2, New B H1 B2 H2 → RA B2 vs ds → Q vs H2) → ta σ H1 Q
/-- a test -/
def EvC (tt : TT) (σ : L2.St) (B : Hp) (b : Bool) : Prop := ∀ H1, Ex B H1 → ∀ Q : Bool → Hp → Prop, (∀ H2, Ex H1 H2 → Q b H2) → tt σ H1 Q
/-- an operation on two, on one; a call on values -/
def RV (r : R2) (x y : Dt) (z : Dt) : Prop := ∀ B H1 v w, Ex B H1 → R B v x → R B w y → ∀ Q : VK, (∀ u B2 H2, New B H1 B2 H2 → R B2 u z → Q u H2) → r v w H1 Q
def RU (r : V → Hp → VK → Prop) (x : Dt) (z : Dt) : Prop := ∀ B H1 v, Ex B H1 → R B v x → ∀ Q : VK, (∀ u B2 H2, New B H1 B2 H2 → R B2 u z → Q u H2) → r v H1 Q
def RL (r : List V → Hp → VK → Prop) (xs : List Dt) (z : Dt) : Prop := ∀ B H1 vs, Ex B H1 → RA B vs xs → ∀ Q : VK, (∀ u B2 H2, New B H1 B2 H2 → R B2 u z → Q u H2) → r vs H1 Q

section
variable {K : PySem.W.Frag} {σ : L2.St} {B B' H : Hp} {ta tb te : TE} {t u : TT} {tl tr : TA} {x y z d e : Dt} {xs ds : List Dt} {r : R2} {a b : Bool} {i j : Int}
theorem EvR.mono (e : Ex B B') (h : EvR te σ B d) : EvR te σ B' d := fun H1 e1 Q q => h H1 (e.trans e1) Q fun v B2 H2 n rv =>
  q v (join B' B2) H2 ⟨join_l, join_sub (e1.trans n.heap) n.sub, n.heap, fun p h1 h2 => by
    unfold join
    rw [h1]
    exact n.fresh p (fresh_back e h1) h2⟩ (rv.mono (join_r (e1.trans n.heap) n.sub))
theorem EvRA.mono (e : Ex B B') (h : EvRA tl σ B ds) : EvRA tl σ B' ds := fun H1 e1 Q q => h H1 (e.trans e1) Q fun v B2 H2 n rv =>
  q v (join B' B2) H2 ⟨join_l, join_sub (e1.trans n.heap) n.sub, n.heap, fun p h1 h2 => by
    unfold join
    rw [h1]
    exact n.fresh p (fresh_back e h1) h2⟩ (rv.mono (join_r (e1.trans n.heap) n.sub))
theorem EvC.mono (e : Ex B B') (h : EvC t σ B b) : EvC t σ B' b := fun H1 e1 Q q => h H1 (e.trans e1) Q q
theorem EvR.is (h : EvR te σ B d) (q : d = e) : EvR te σ B e := q ▸ h
theorem EvC.is (h : EvC t σ B a) (q : a = b) : EvC t σ B b := q ▸ h

theorem ev_v {n : Nat} {v : V} (h : σ[n]? = some (some v)) (rv : R B v d) : EvR (tVar n) σ B d := fun H1 e Q q => ⟨v, h, q v B H1 (New.refl e) rv⟩
theorem ev_i : EvR (tC (.int i)) σ B (.int i) := fun H1 e Q q => q _ B H1 (New.refl e) (.int i)
theorem ev_b : EvR (tC (.bl a)) σ B (.bl a) := fun H1 e Q q => q _ B H1 (New.refl e) (.bl a)
theorem ev_s {s : Str} : EvR (tC (.str s)) σ B (.str s) := fun H1 e Q q => q _ B H1 (New.refl e) (.str s)
theorem ev_n : EvR (tC .non) σ B .non := fun H1 e Q q => q _ B H1 (New.refl e) .non
theorem ev_op (ha : EvR ta σ B x) (hb : EvR tb σ B y) (hr : RV r x y z) : EvR (tOp r ta tb) σ B z := fun H1 e Q q =>
  ha H1 e _ fun v B2 H2 n rv => (hb.mono n.ext) H2 n.sub _ fun w B3 H3 n2 rw => hr B3 H3 v w n2.sub (rv.mono n2.ext) rw Q fun c B4 H4 n3 rc => q c B4 H4 ((n.trans n2).trans n3) rc
theorem ev_un {f : V → Hp → VK → Prop} (ha : EvR ta σ B x) (hr : RU f x z) : EvR (tUn f ta) σ B z := fun H1 e Q q =>
  ha H1 e _ fun v B2 H2 n rv => hr B2 H2 v n.sub rv Q fun c B4 H4 n3 rc => q c B4 H4 (n.trans n3) rc
theorem ea_nil : EvRA tNil σ B [] := fun H1 e Q q => q [] B H1 (New.refl e) .nil
theorem ea_cons (h : EvR te σ B x) (hr : EvRA tr σ B xs) : EvRA (tCons te tr) σ B (x :: xs) := fun H1 e Q q =>
  h H1 e _ fun v B2 H2 n rv => (hr.mono n.ext) H2 n.sub _ fun vs B3 H3 n2 rvs => q (v :: vs) B3 H3 (n.trans n2) (.cons (rv.mono n2.ext) rvs)
theorem ev_cb {f : List V → Hp → VK → Prop} (h : EvRA tl σ B xs) (hr : RL f xs z) : EvR (tCB f tl) σ B z := fun H1 e Q q =>
  h H1 e _ fun vs B2 H2 n rv => hr B2 H2 vs n.sub rv Q fun c B4 H4 n3 rc => q c B4 H4 (n.trans n3) rc
theorem ev_tup (h : EvRA tl σ B ds) (hl : ds.length ≤ 100000) : EvR (tTup tl) σ B (.tup ds) := fun H1 e Q q =>
  h H1 e _ fun vs B2 H2 n rv => ⟨by rw [rv.len]; exact sz_of hl, fun p hp => q _ (upd B2 p (.tup vs)) _ (n.trans (New.one n.sub hp)) (.tup upd_same (rv.mono (Ex.new (fresh_back n.sub hp))))⟩
theorem ev_lst (h : EvRA tl σ B ds) (hl : ds.length ≤ 100000) : EvR (tLst tl) σ B (.lst ds) := fun H1 e Q q =>
  h H1 e _ fun vs B2 H2 n rv => ⟨by rw [rv.len]; exact sz_of hl, fun p hp => q _ (upd B2 p (.lst vs)) _ (n.trans (New.one n.sub hp)) (.lst upd_same (rv.mono (Ex.new (fresh_back n.sub hp))))⟩
/-- if without loss: the value is an if -/
theorem ev_if (h : EvC t σ B b) (h1 : b = true → EvR ta σ B x) (h2 : b = false → EvR tb σ B x) : EvR (tIf t ta tb) σ B x := fun H1 e Q q => h H1 e _ fun H2 e2 => by
  have g : ∀ (ty : TE), EvR ty σ B x → ty σ H2 Q := fun ty hy => hy H2 (e.trans e2) Q fun v B3 H3 n rv => q v B3 H3 ((New.grow (e.trans e2) e2 e).trans n) rv
  cases b with
  | true => exact g ta (h1 rfl)
  | false => exact g tb (h2 rfl)
theorem ev_ifI (h : EvC t σ B b) (h1 : EvR ta σ B (.int i)) (h2 : EvR tb σ B (.int j)) : EvR (tIf t ta tb) σ B (.int (if b = true then i else j)) :=
  ev_if h (fun e => h1.is (by rw [e]; rfl)) (fun e => h2.is (by rw [e]; rfl))
theorem ev_and (h1 : EvR ta σ B (.bl a)) (h2 : a = true → EvR tb σ B (.bl b)) : EvR (tAndV ta tb) σ B (.bl (a && b)) := fun H1 e Q q => h1 H1 e _ fun v B2 H2 n rv => by
  cases rv
  refine ⟨a, rfl, ?_⟩
  cases a with
  | true => exact ((h2 rfl).mono n.ext) H2 n.sub Q fun v B3 H3 n2 r2 => q v B3 H3 (n.trans n2) r2
  | false => exact q _ B2 H2 n (.bl false)
theorem ev_or (h1 : EvR ta σ B (.bl a)) (h2 : a = false → EvR tb σ B (.bl b)) : EvR (tOrV ta tb) σ B (.bl (a || b)) := fun H1 e Q q => h1 H1 e _ fun v B2 H2 n rv => by
  cases rv
  refine ⟨a, rfl, ?_⟩
  cases a with
  | false => exact ((h2 rfl).mono n.ext) H2 n.sub Q fun v B3 H3 n2 r2 => q v B3 H3 (n.trans n2) r2
  | true => exact q _ B2 H2 n (.bl true)
theorem ev_not (h1 : EvR ta σ B (.bl a)) : EvR (tNotV ta) σ B (.bl (!a)) := fun H1 e Q q => h1 H1 e _ fun v B2 H2 n rv => by
  cases rv
  exact ⟨a, rfl, q _ B2 H2 n (.bl _)⟩
/-- tests -/
theorem ec_t (h : EvR te σ B (.bl a)) : EvC (tTest te) σ B a := fun H1 e Q q => h H1 e _ fun v B2 H2 n rv => by
  cases rv
  exact ⟨a, rfl, q H2 n.heap⟩
theorem ec_v (h : EvR te σ B (.bl a)) : EvC (tB te) σ B a := fun H1 e Q q => h H1 e _ fun v B2 H2 n rv => by
  cases rv
  exact ⟨a, rfl, q H2 n.heap⟩
theorem ec_and (h1 : EvC t σ B a) (h2 : a = true → EvC u σ B b) : EvC (tAnd t u) σ B (a && b) := fun H1 e Q q => h1 H1 e _ fun H2 e2 => by
  cases a with
  | true => exact h2 rfl H2 (e.trans e2) Q fun H3 e3 => q H3 (e2.trans e3)
  | false => exact q H2 e2
theorem ec_or (h1 : EvC t σ B a) (h2 : a = false → EvC u σ B b) : EvC (tOr t u) σ B (a || b) := fun H1 e Q q => h1 H1 e _ fun H2 e2 => by
  cases a with
  | false => exact h2 rfl H2 (e.trans e2) Q fun H3 e3 => q H3 (e2.trans e3)
  | true => exact q H2 e2
theorem ec_not (h1 : EvC t σ B a) : EvC (tNot t) σ B (!a) := fun H1 e _ q => h1 H1 e _ fun H2 e2 => q H2 e2
theorem ec_yes : EvC tYes σ B true := fun H1 e _ q => q H1 (Ex.refl H1)

/-! ### operations -/
theorem rv_I0 {g : Int → Int → V} {g' : Int → Int → Dt} (h : ∀ B i j, R B (g i j) (g' i j)) : RV (rI0 g) (.int i) (.int j) (g' i j) := fun B H1 v w e r1 r2 Q q => by
  cases r1; cases r2
  exact ⟨i, j, rfl, rfl, q _ B H1 (New.refl e) (h B i j)⟩
theorem rv_I {C : Int → Int → Prop} {g : Int → Int → V} {g' : Int → Int → Dt} (h : ∀ B i j, R B (g i j) (g' i j)) (hc : C i j) : RV (rI C g) (.int i) (.int j) (g' i j) := fun B H1 v w e r1 r2 Q q => by
  cases r1; cases r2
  exact ⟨i, j, rfl, rfl, hc, q _ B H1 (New.refl e) (h B i j)⟩
theorem rv_add : RV (rI0 fun i j => .int (i + j)) (.int i) (.int j) (.int (i + j)) := rv_I0 (g' := fun i j => .int (i + j)) fun _ _ _ => .int _
theorem rv_sub : RV (rI0 fun i j => .int (i - j)) (.int i) (.int j) (.int (i - j)) := rv_I0 (g' := fun i j => .int (i - j)) fun _ _ _ => .int _
theorem rv_mul (h : CMul i j) : RV (rI CMul fun i j => .int (i * j)) (.int i) (.int j) (.int (i * j)) := rv_I (g' := fun i j => .int (i * j)) (fun _ _ _ => .int _) h
theorem rv_mod (h : 0 < j) : RV (rI (fun _ j => 0 < j) fun i j => .int (i % j)) (.int i) (.int j) (.int (i % j)) := rv_I (g' := fun i j => .int (i % j)) (fun _ _ _ => .int _) h
theorem rv_div (h : CDiv i j) : RV (rI CDiv fun i j => .int (i / j)) (.int i) (.int j) (.int (i / j)) := rv_I (g' := fun i j => .int (i / j)) (fun _ _ _ => .int _) h
theorem rv_pow (h : CPow i j) : RV (rI CPow fun i j => .int (i ^ j.toNat)) (.int i) (.int j) (.int (i ^ j.toNat)) := rv_I (g' := fun i j => .int (i ^ j.toNat)) (fun _ _ _ => .int _) h
theorem rv_shr (h : 0 ≤ j) : RV (rI (fun _ j => 0 ≤ j) fun i j => .int (i / 2 ^ j.toNat)) (.int i) (.int j) (.int (i / 2 ^ j.toNat)) := rv_I (g' := fun i j => .int (i / 2 ^ j.toNat)) (fun _ _ _ => .int _) h
theorem rv_lt : RV (rI0 fun i j => .bl (decide (i < j))) (.int i) (.int j) (.bl (decide (i < j))) := rv_I0 (g' := fun i j => .bl (decide (i < j))) fun _ _ _ => .bl _
theorem rv_le : RV (rI0 fun i j => .bl (decide (i ≤ j))) (.int i) (.int j) (.bl (decide (i ≤ j))) := rv_I0 (g' := fun i j => .bl (decide (i ≤ j))) fun _ _ _ => .bl _
theorem rv_gt : RV (rI0 fun i j => .bl (decide (j < i))) (.int i) (.int j) (.bl (decide (j < i))) := rv_I0 (g' := fun i j => .bl (decide (j < i))) fun _ _ _ => .bl _
theorem rv_ge : RV (rI0 fun i j => .bl (decide (j ≤ i))) (.int i) (.int j) (.bl (decide (j ≤ i))) := rv_I0 (g' := fun i j => .bl (decide (j ≤ i))) fun _ _ _ => .bl _
theorem ru_neg : RU (rU fun i => .int (-i)) (.int i) (.int (-i)) := fun B H1 v e r1 Q q => by
  cases r1
  exact ⟨i, rfl, q _ B H1 (New.refl e) (.int _)⟩
/-- == and != of plain values; of data -/
def rOr (r r' : R2) : R2 := fun x y H Q => r x y H Q ∨ r' x y H Q
theorem rv_inl {r r' : R2} (h : RV r x y z) : RV (rOr r r') x y z := fun B H1 v w e r1 r2 Q q => .inl (h B H1 v w e r1 r2 Q q)
theorem rv_inr {r r' : R2} (h : RV r' x y z) : RV (rOr r r') x y z := fun B H1 v w e r1 r2 Q q => .inr (h B H1 v w e r1 r2 Q q)
theorem rv_eqI : RV rEq (.int i) (.int j) (.bl (decide (i = j))) := fun B H1 v w e r1 r2 Q q => by
  cases r1; cases r2
  exact ⟨rfl, q _ B H1 (New.refl e) (by have : decide (V.int i = V.int j) = decide (i = j) := by simp
                                        rw [this]; exact .bl _)⟩
theorem rv_neI : RV rNe (.int i) (.int j) (.bl (!decide (i = j))) := fun B H1 v w e r1 r2 Q q => by
  cases r1; cases r2
  exact ⟨rfl, q _ B H1 (New.refl e) (by have : decide (V.int i = V.int j) = decide (i = j) := by simp
                                        rw [this]; exact .bl _)⟩
theorem rv_eqS {s s' : Str} : RV rEq (.str s) (.str s') (.bl (decide (s = s'))) := fun B H1 v w e r1 r2 Q q => by
  cases r1; cases r2
  exact ⟨rfl, q _ B H1 (New.refl e) (by have : decide (V.str s = V.str s') = decide (s = s') := by simp
                                        rw [this]; exact .bl _)⟩
theorem rv_neS {s s' : Str} : RV rNe (.str s) (.str s') (.bl (!decide (s = s'))) := fun B H1 v w e r1 r2 Q q => by
  cases r1; cases r2
  exact ⟨rfl, q _ B H1 (New.refl e) (by have : decide (V.str s = V.str s') = decide (s = s') := by simp
                                        rw [this]; exact .bl _)⟩
theorem rv_eqD (h1 : SeqAt.shaped x.py = true) (h2 : SeqAt.shaped y.py = true) : RV (rEqD K) x y (.bl (PyData.eqv x.py y.py)) := fun B H1 v w e r1 r2 Q q =>
  ⟨_, _, (r1.mono e).dp, (r2.mono e).dp, h1, h2, q _ B H1 (New.refl e) (.bl _)⟩
theorem rv_neD (h1 : SeqAt.shaped x.py = true) (h2 : SeqAt.shaped y.py = true) : RV (rNeD K) x y (.bl (!PyData.eqv x.py y.py)) := fun B H1 v w e r1 r2 Q q =>
  ⟨_, _, (r1.mono e).dp, (r2.mono e).dp, h1, h2, q _ B H1 (New.refl e) (.bl _)⟩
/-- a place of a list, of a tuple -/
theorem atI_RA {vs : List V} {ds : List Dt} (h : RA B vs ds) (ha : atI ds i = some d) : ∃ v, atI vs i = some v ∧ R B v d := by
  unfold atI at ha ⊢
  rw [h.len]
  cases q : ixN ds.length i with
  | none => rw [q] at ha; cases ha
  | some k =>
    rw [q] at ha
    exact h.get ha
theorem rv_ixL (ha : atI ds i = some d) : RV (rIx K) (.lst ds) (.int i) d := fun B H1 v w e r1 r2 Q q => by
  cases r2
  obtain ⟨p, vs, rfl, hp, ra⟩ := r1.lst_inv
  obtain ⟨v, hv, rv⟩ := atI_RA ra ha
  exact .inl ⟨p, vs, i, v, rfl, rfl, sq_of (e _ _ hp), hv, q v B H1 (New.refl e) rv⟩
theorem rv_ixT (ha : atI ds i = some d) : RV (rIx K) (.tup ds) (.int i) d := fun B H1 v w e r1 r2 Q q => by
  cases r2
  obtain ⟨p, vs, rfl, hp, ra⟩ := r1.tup_inv
  obtain ⟨v, hv, rv⟩ := atI_RA ra ha
  exact .inr (.inl ⟨p, vs, i, v, rfl, rfl, st_of (e _ _ hp), hv, q v B H1 (New.refl e) rv⟩)
/-- lists one behind the other -/
theorem rv_cat {es : List Dt} (h : ds.length + es.length ≤ 100000) : RV rCat (.lst ds) (.lst es) (.lst (ds ++ es)) := fun B H1 v w e r1 r2 Q q => by
  obtain ⟨p, vs, rfl, hp, ra⟩ := r1.lst_inv
  obtain ⟨p2, vs2, rfl, hp2, ra2⟩ := r2.lst_inv
  refine ⟨p, p2, vs, vs2, rfl, rfl, e _ _ hp, e _ _ hp2, by rw [ra.len, ra2.len]; exact sz_of h, fun p hp => ?_⟩
  exact q _ (upd B p (.lst (vs ++ vs2))) _ (New.one e hp) (.lst upd_same ((ra.append ra2).mono (Ex.new (fresh_back e hp))))

/-! ### calls of built-ins -/
theorem rl_lenL : RL (rLenS K) [.lst ds] (.int (ds.length : Int)) := fun B H1 vs e ra Q q => by
  cases ra with | cons r1 r2 =>
  cases r2
  obtain ⟨p, vs, rfl, hp, ra⟩ := r1.lst_inv
  exact ⟨p, vs, rfl, .inl (sq_of (e _ _ hp)), q _ B H1 (New.refl e) (by rw [ra.len]; exact .int _)⟩
theorem rl_lenT : RL (rLenS K) [.tup ds] (.int (ds.length : Int)) := fun B H1 vs e ra Q q => by
  cases ra with | cons r1 r2 =>
  cases r2
  obtain ⟨p, vs, rfl, hp, ra⟩ := r1.tup_inv
  exact ⟨p, vs, rfl, .inr (st_of (e _ _ hp)), q _ B H1 (New.refl e) (by rw [ra.len]; exact .int _)⟩
theorem rl_list : RL (rListS K) [.lst ds] (.lst ds) := fun B H1 vs e ra Q q => by
  cases ra with | cons r1 r2 =>
  cases r2
  obtain ⟨p, vs, rfl, hp, ra⟩ := r1.lst_inv
  exact ⟨p, vs, rfl, .inl (sq_of (e _ _ hp)), fun l hl => q _ (upd B l (.lst vs)) _ (New.one e hl) (.lst upd_same (ra.mono (Ex.new (fresh_back e hl))))⟩
theorem rl_listT : RL (rListS K) [.tup ds] (.lst ds) := fun B H1 vs e ra Q q => by
  cases ra with | cons r1 r2 =>
  cases r2
  obtain ⟨p, vs, rfl, hp, ra⟩ := r1.tup_inv
  exact ⟨p, vs, rfl, .inr (st_of (e _ _ hp)), fun l hl => q _ (upd B l (.lst vs)) _ (New.one e hl) (.lst upd_same (ra.mono (Ex.new (fresh_back e hl))))⟩
def rTupleS (K : PySem.W.Frag) : List V → Hp → VK → Prop := fun xs H Q => ∃ p ys, xs = [.ref p] ∧ ((SqL K H p ys ∧ ∀ l, H l = none → Q (.ref l) (upd H l (.tup ys))) ∨ (SqT K H p ys ∧ Q (.ref p) H))
theorem rl_tuple : RL (rTupleS K) [.lst ds] (.tup ds) := fun B H1 vs e ra Q q => by
  cases ra with | cons r1 r2 =>
  cases r2
  obtain ⟨p, vs, rfl, hp, ra⟩ := r1.lst_inv
  exact ⟨p, vs, rfl, .inl ⟨sq_of (e _ _ hp), fun l hl => q _ (upd B l (.tup vs)) _ (New.one e hl) (.tup upd_same (ra.mono (Ex.new (fresh_back e hl))))⟩⟩
def rAbs : List V → Hp → VK → Prop := fun xs H Q => ∃ i, xs = [.int i] ∧ Q (.int (if i < 0 then -i else i)) H
theorem rl_abs : RL rAbs [.int i] (.int (if i < 0 then -i else i)) := fun B H1 vs e ra Q q => by
  cases ra with | cons r1 r2 =>
  cases r1; cases r2
  exact ⟨i, rfl, q _ B H1 (New.refl e) (.int _)⟩
def rInt1 : List V → Hp → VK → Prop := fun xs H Q => (∃ i, xs = [.int i] ∧ Q (.int i) H) ∨ ∃ k, xs = [.bl k] ∧ Q (.int (if k then 1 else 0)) H
theorem rl_int : RL rInt1 [.int i] (.int i) := fun B H1 vs e ra Q q => by
  cases ra with | cons r1 r2 =>
  cases r1; cases r2
  exact .inl ⟨i, rfl, q _ B H1 (New.refl e) (.int _)⟩
def rMax2 : List V → Hp → VK → Prop := fun xs H Q => ∃ i j, xs = [.int i, .int j] ∧ Q (.int (if j > i then j else i)) H
def rMin2 : List V → Hp → VK → Prop := fun xs H Q => ∃ i j, xs = [.int i, .int j] ∧ Q (.int (if j < i then j else i)) H
theorem rl_max2 : RL rMax2 [.int i, .int j] (.int (if j > i then j else i)) := fun B H1 vs e ra Q q => by
  cases ra with | cons r1 r2 =>
  cases r2 with | cons r2 r3 =>
  cases r1; cases r2; cases r3
  exact ⟨i, j, rfl, q _ B H1 (New.refl e) (.int _)⟩
theorem rl_min2 : RL rMin2 [.int i, .int j] (.int (if j < i then j else i)) := fun B H1 vs e ra Q q => by
  cases ra with | cons r1 r2 =>
  cases r2 with | cons r2 r3 =>
  cases r1; cases r2; cases r3
  exact ⟨i, j, rfl, q _ B H1 (New.refl e) (.int _)⟩
theorem rl_repr (hq : isSeq d = true) (f : Fit d) : RL (fun xs H Q => rRepr H xs Q) [d] (.str d.py.shown) := fun B H1 vs e ra Q q => by
  cases ra with | cons r1 r2 =>
  cases r2
  exact ⟨_, d, rfl, r1.mono e, hq, f, q _ B H1 (New.refl e) (.str _)⟩
theorem rl_all {α : Type} {l : List α} {p : α → Bool} : RL (rAll K) [.lst (l.map fun a => Dt.bl (p a))] (.bl (l.all p)) := fun B H1 vs e ra Q q => by
  cases ra with | cons r1 r2 =>
  cases r2
  obtain ⟨a, vs, rfl, hp, ra⟩ := r1.lst_inv
  refine ⟨a, l.map p, rfl, sq_of (by rw [← ra.bls_inv]; exact e _ _ hp), ?_⟩
  have : (l.map p).all id = l.all p := by rw [List.all_map]; rfl
  rw [this]
  exact q _ B H1 (New.refl e) (.bl _)
/-- the least of ints (0 for none) -/
def minL : List Int → Int
  | [] => 0
  | x :: xs => xs.foldl (fun a b => if b < a then b else a) x
theorem minL_go : ∀ (xs : List Int) (a : Int), (xs.foldl (fun a b => if b < a then b else a) a ∈ a :: xs) ∧ ∀ y ∈ a :: xs, xs.foldl (fun a b => if b < a then b else a) a ≤ y
  | [], a => by simp
  | x :: xs, a => by
    rw [List.foldl_cons]
    obtain ⟨h1, h2⟩ := minL_go xs (if x < a then x else a)
    have hm : (if x < a then x else a) ≤ a ∧ (if x < a then x else a) ≤ x := by split <;> constructor <;> omega
    constructor
    · rcases List.mem_cons.mp h1 with e | e
      · rw [e]
        split
        · exact List.mem_cons_of_mem _ List.mem_cons_self
        · exact List.mem_cons_self
      · exact List.mem_cons_of_mem _ (List.mem_cons_of_mem _ e)
    · intro y hy
      have h3 := h2 _ List.mem_cons_self
      rcases List.mem_cons.mp hy with e | hy
      · rw [e]; omega
      · rcases List.mem_cons.mp hy with e | hy
        · rw [e]; omega
        · exact h2 y (List.mem_cons_of_mem _ hy)
theorem minL_mem {xs : List Int} (h : xs ≠ []) : minL xs ∈ xs := by
  cases xs with
  | nil => exact absurd rfl h
  | cons x xs => exact (minL_go xs x).1
theorem minL_le {xs : List Int} {y : Int} (h : y ∈ xs) : minL xs ≤ y := by
  cases xs with
  | nil => cases h
  | cons x xs => exact (minL_go xs x).2 y h
theorem minL_eq {xs : List Int} {m : Int} (h1 : m ∈ xs) (h2 : ∀ y ∈ xs, m ≤ y) : m = minL xs :=
  Int.le_antisymm (h2 _ (minL_mem (fun e => by rw [e] at h1; cases h1))) (minL_le h1)
theorem rl_min {α : Type} {l : List α} {g : α → Int} (h : l ≠ []) : RL (L2.rMin K) [.lst (l.map fun a => Dt.int (g a))] (.int (minL (l.map g))) := fun B H1 vs e ra Q q => by
  cases ra with | cons r1 r2 =>
  cases r2
  obtain ⟨a, vs, rfl, hp, ra⟩ := r1.lst_inv
  refine ⟨a, l.map g, rfl, sq_of (by rw [← ra.intsf_inv]; exact e _ _ hp), ?_, fun m h1 h2 => ?_⟩
  · rw [List.length_map]; exact List.length_pos_iff.mpr h
  · rw [minL_eq h1 h2]; exact q _ B H1 (New.refl e) (.int _)

/-! ### what kind a value is of -/
def Dt.kind : Dt → String
  | .non => "NoneType" | .bl _ => "bool" | .int _ => "int" | .str _ => "str" | .lst _ => "list" | .tup _ => "tuple"
theorem R.kind {v : V} (e : Ex B H) (h : R B v d) : zTyV v H = some d.kind := by
  cases h with
  | lst h _ => simp only [zTyV, e _ _ h, Dt.kind]
  | tup h _ => simp only [zTyV, e _ _ h, Dt.kind]
  | _ => rfl
theorem R.tyx {v : V} (e : Ex B H) (h : R B v d) : TyX K H v (.type d.kind) := by
  cases h with
  | non => exact .base .non
  | bl b => exact .base (.bl b)
  | int b => exact .base (.int b)
  | str b => exact .base (.str b)
  | lst h _ => exact .base (.lst (e _ _ h))
  | tup h _ => exact .base (.tup (e _ _ h))
def rIsTy : R2 := fun x y H Q => ∃ m n, x = .ty m ∧ y = .ty n ∧ Q (.bl (decide (m = n))) H
/-- type(x) is T -/
theorem ev_isTy {n : String} (h : EvR ta σ B d) : EvR (tOp rIsTy (tThenZ ta kTyp) (tC (.ty n))) σ B (.bl (decide (d.kind = n))) := fun H1 e Q q =>
  h H1 e _ fun v B2 H2 nw rv => ⟨_, rv.kind nw.sub, _, _, rfl, rfl, q _ B2 H2 nw (.bl _)⟩
/-- isinstance(x, T) -/
theorem ev_isi {n : String} {r : Bool} (h : EvR ta σ B d) (hk : kitB d.kind n = some r) : EvR (tCB (rIsi K) (tCons ta (tCons (tC (.ty n)) tNil))) σ B (.bl r) := fun H1 e Q q =>
  h H1 e _ fun v B2 H2 nw rv => ⟨v, _, _, _, r, rfl, .ty n, rv.tyx nw.sub, kit_ty hk, q _ B2 H2 nw (.bl _)⟩
end
end U

namespace U
open PySem L2 Evl

section
variable {K : PySem.W.Frag} {σ : L2.St} {B B' H : Hp} {ta tb te : TE} {t u : TT} {tl tr tk : TA} {x y z d e : Dt} {xs ds es : List Dt} {r : R2} {a b : Bool} {i j : Nat} {D : Ends} {tu tw tz : TS} {g : TG}
/-- the heap alone has grown -/
structure Up (B H H1 : Hp) : Prop where
  old : Ex B H
  sub : Ex B H1
  heap : Ex H H1
theorem Up.new {B H H1 : Hp} (u : Up B H H1) : New B H B H1 := New.grow u.sub u.heap u.old
/-! ### statements -/
theorem s_asg (e : Ex B H) (h : EvR te σ B d) (k : ∀ v B1 H1, New B H B1 H1 → R B1 v d → D.nx (σ.set i (some v)) H1) : tAsg te (gName i) D σ H := h H e _ k
theorem s_ret (e : Ex B H) (h : EvR te σ B d) (k : ∀ v B1 H1, New B H B1 H1 → R B1 v d → D.rt v H1) : tRet te D σ H := h H e _ k
theorem s_retE (e : Ex B H) (h : EvR te σ B x) (q : x = d) (k : ∀ v B1 H1, New B H B1 H1 → R B1 v d → D.rt v H1) : tRet te D σ H := h H e _ fun v B1 H1 n rv => k v B1 H1 n (q ▸ rv)
theorem s_drop (e : Ex B H) (h : EvR te σ B d) (k : ∀ H1, Up B H H1 → D.nx σ H1) : tDrop te D σ H := h H e _ fun v B1 H1 n _ => k H1 ⟨e, e.trans n.heap, n.heap⟩
theorem s_if (e : Ex B H) (h : EvC t σ B b) (h1 : b = true → ∀ H1, Up B H H1 → tu D σ H1) (h2 : b = false → ∀ H1, Up B H H1 → tw D σ H1) : tIfS t tu tw D σ H := h H e _ fun H2 e2 => by
  cases b with
  | true => exact h1 rfl H2 ⟨e, e.trans e2, e2⟩
  | false => exact h2 rfl H2 ⟨e, e.trans e2, e2⟩
theorem s_next (h : D.nx σ H) : tNext D σ H := h
theorem s_seq (h : tu { D with nx := tz D } σ H) : tSeq tu tz D σ H := h
/-- a, b = e -/
theorem s_asg2 (e : Ex B H) (h : EvR te σ B (.tup [x, y])) (k : ∀ v w B1 H1, New B H B1 H1 → R B1 v x → R B1 w y → D.nx ((σ.set i (some v)).set j (some w)) H1) :
    tAsg te (gTup K 2 (gCons (gName i) (gCons (gName j) gNil))) D σ H := h H e _ fun v B1 H1 n rv => by
  obtain ⟨p, vs, rfl, hp, ra⟩ := rv.tup_inv
  cases ra with | cons r1 ra =>
  cases ra with | cons r2 ra =>
  cases ra
  exact ⟨p, _, rfl, st_of (n.sub _ _ hp), rfl, _, _, rfl, _, _, rfl, rfl, k _ _ B1 H1 n r1 r2⟩
/-- a, b = e1, e2 -/
theorem s_par (e : Ex B H) (h : EvRA tl σ B [x, y]) (k : ∀ v w B1 H1, New B H B1 H1 → R B1 v x → R B1 w y → D.nx ((σ.set i (some v)).set j (some w)) H1) : tPar i j tl D σ H := h H e _ fun vs B1 H1 n ra => by
  cases ra with | cons r1 ra =>
  cases ra with | cons r2 ra =>
  cases ra
  exact ⟨_, _, rfl, k _ _ B1 H1 n r1 r2⟩
/-- x = [] -/
theorem s_new (e : Ex B H) (k : ∀ p H1, H p = none → B p = none → H1 = upd H p (.lst []) → Up B H H1 → D.nx (σ.set i (some (.ref p))) H1) : tAsg (tLst tNil) (gName i) D σ H :=
  ⟨Nat.zero_le _, fun p hp => k p _ hp (fresh_back e hp) rfl ⟨e, Ex.mut e (fresh_back e hp), Ex.new hp⟩⟩
/-- a list of one's own -/
structure Own (H0 B H : Hp) (p : Addr) (xs : List V) : Prop where
  h0 : H0 p = none
  b : B p = none
  h : H p = some (.lst xs)
theorem Own.step {H0 B H B1 H1 : Hp} {p : Addr} {xs : List V} (o : Own H0 B H p xs) (n : New B H B1 H1) : Own H0 B1 H1 p xs :=
  ⟨o.h0, n.fresh p o.b (by rw [o.h]; simp), n.heap _ _ o.h⟩
theorem Own.put {H0 B H : Hp} {p : Addr} {xs ys : List V} (o : Own H0 B H p xs) : Own H0 B (upd H p (.lst ys)) p ys := ⟨o.h0, o.b, upd_same⟩
theorem Own.other {H0 B H : Hp} {p q : Addr} {xs : List V} {u : HO} (o : Own H0 B H p xs) (h : p ≠ q) : Own H0 B (upd H q u) p xs := ⟨o.h0, o.b, by rw [upd_ne h]; exact o.h⟩
theorem New.put {B0 H0 B H : Hp} {p : Addr} {xs : List V} {u : HO} (n : New B0 H0 B H) (o : Own H0 B H p xs) : New B0 H0 B (upd H p u) :=
  ⟨n.ext, Ex.mut n.sub o.b, Ex.mut n.heap o.h0, n.fresh⟩
/-- it is handed on as data -/
theorem New.give {B0 H0 B H : Hp} {p : Addr} {xs : List V} (n : New B0 H0 B H) (o : Own H0 B H p xs) : New B0 H0 (upd B p (.lst xs)) H := by
  refine ⟨n.ext.trans (Ex.new o.b), fun q u h => ?_, n.heap, fun q h1 h2 => ?_⟩
  · by_cases hq : q = p
    · subst hq; rw [upd_same] at h; cases h; exact o.h
    · rw [upd_ne hq] at h; exact n.sub q u h
  · rw [upd_ne (fun z => by subst z; exact h2 o.h0)]; exact n.fresh q h1 h2
theorem Own.data {H0 B H : Hp} {p : Addr} {xs : List V} {ds : List Dt} (o : Own H0 B H p xs) (r : RA B xs ds) : R (upd B p (.lst xs)) (.ref p) (.lst ds) := .lst upd_same (r.mono (Ex.new o.b))
/-- p.append(e) -/
theorem s_app {H0 : Hp} {p : Addr} {vs : List V} {n : Nat} (e : Ex B H) (o : Own H0 B H p vs) (hv : σ[n]? = some (some (.ref p))) (h : EvR te σ B d) (hz : vs.length < 100000)
    (k : ∀ v B1 H1, New B H B1 H1 → Own H0 B1 H1 p vs → R B1 v d → D.nx σ (upd H1 p (.lst (vs ++ [v])))) : tDrop (tBM K "list" rAppend (tVar n) (tCons te tNil)) D σ H :=
  ⟨_, hv, .inl ⟨rfl, _, .inl (.inl o.h)⟩, h H e _ fun v B1 H1 nw rv => ⟨p, vs, v, rfl, rfl, (o.step nw).h, sz_lt hz, k v B1 H1 nw (o.step nw) rv⟩⟩

/-! ### loops -/
theorem s_forL (e : Ex B H) (h : EvR te σ B (.lst ds)) (Pv : Hp → Hp → Nat → L2.St → Hp → Prop) (h0 : ∀ B1 H1, New B H B1 H1 → Pv B1 H1 0 σ H1) (hx : ∀ B1 H1 i σ' H', Pv B1 H1 i σ' H' → Ex B1 H')
    (hs : ∀ B1 H1 i d v σ' H', New B H B1 H1 → ds[i]? = some d → R B1 v d → Pv B1 H1 i σ' H' → g v σ' H' fun σ2 H2 => tu { D with nx := Pv B1 H1 (i + 1), ct := Pv B1 H1 (i + 1), bk := D.nx } σ2 H2)
    (hd : ∀ B1 H1 σ' H', New B H B1 H1 → Pv B1 H1 ds.length σ' H' → D.nx σ' H') : tFor (iList K te) g tu D σ H := h H e _ fun v B1 H1 n rv => by
  obtain ⟨p, vs, rfl, hp, ra⟩ := rv.lst_inv
  refine ⟨p, rfl, ⟨vs, sq_of (n.sub _ _ hp)⟩, for_list (K := K) (a := p) (xs := vs) (Pv B1 H1) (h0 B1 H1 n) (fun i σ' H' _ q => sq_of (hx B1 H1 i σ' H' q _ _ hp)) (fun i v σ' H' hi q => ?_) (fun σ' H' q => hd B1 H1 σ' H' n (by rw [← ra.len]; exact q))⟩
  obtain ⟨d, hd', rd⟩ := ra.getV hi
  exact hs B1 H1 i d v σ' H' n hd' rd q
theorem s_forT (e : Ex B H) (h : EvR te σ B (.tup ds)) (Pv : Hp → Hp → Nat → L2.St → Hp → Prop) (h0 : ∀ B1 H1, New B H B1 H1 → Pv B1 H1 0 σ H1) (hx : ∀ B1 H1 i σ' H', Pv B1 H1 i σ' H' → Ex B1 H')
    (hs : ∀ B1 H1 i d v σ' H', New B H B1 H1 → ds[i]? = some d → R B1 v d → Pv B1 H1 i σ' H' → g v σ' H' fun σ2 H2 => tu { D with nx := Pv B1 H1 (i + 1), ct := Pv B1 H1 (i + 1), bk := D.nx } σ2 H2)
    (hd : ∀ B1 H1 σ' H', New B H B1 H1 → Pv B1 H1 ds.length σ' H' → D.nx σ' H') : tFor (iTup K te) g tu D σ H := h H e _ fun v B1 H1 n rv => by
  obtain ⟨p, vs, rfl, hp, ra⟩ := rv.tup_inv
  refine ⟨p, rfl, ⟨vs, st_of (n.sub _ _ hp)⟩, for_tup (K := K) (a := p) (xs := vs) (Pv B1 H1) (h0 B1 H1 n) (fun i σ' H' _ q => st_of (hx B1 H1 i σ' H' q _ _ hp)) (fun i v σ' H' hi q => ?_) (fun σ' H' q => hd B1 H1 σ' H' n (by rw [← ra.len]; exact q))⟩
  obtain ⟨d, hd', rd⟩ := ra.getV hi
  exact hs B1 H1 i d v σ' H' n hd' rd q
/-- for j in range(n) -/
theorem s_forR {n : Int} (e : Ex B H) (h : EvRA tl σ B [.int n]) (hn : 0 ≤ n ∧ n ≤ 1000000) (Pv : Nat → L2.St → Hp → Prop) (h0 : ∀ H1, Up B H H1 → Pv 0 σ H1)
    (hs : ∀ (i : Nat) σ' H', (i : Int) < n → Pv i σ' H' → tu { D with nx := Pv (i + 1), ct := Pv (i + 1), bk := D.nx } (σ'.set j (some (.int (i : Int)))) H') (hd : ∀ σ' H', Pv n.toNat σ' H' → D.nx σ' H') :
    tFor (iRng1 tl) (gName j) tu D σ H := h H e _ fun vs B1 H1 nw ra => by
  cases ra with | cons r1 ra =>
  cases r1; cases ra
  refine ⟨n, rfl, by omega, by omega, for_range (lo := 0) (n := n.toNat) Pv (h0 H1 ⟨e, e.trans nw.heap, nw.heap⟩) (fun i σ' H' hi q => ?_) hd⟩
  have e0 : (0 : Int) + (i : Int) = (i : Int) := Int.zero_add _
  rw [e0]
  exact hs i σ' H' (by omega) q

/-! ### comprehensions -/
def LcI (B1 H1 : Hp) (p : Addr) (out : Nat → List Dt) (i : Nat) (H' : Hp) : Prop := ∃ B' acc, New B1 H1 B' H' ∧ Own H1 B' H' p acc ∧ RA B' acc (out i)
theorem lcI_start {B1 H1 : Hp} {p : Addr} {out : Nat → List Dt} (e : Ex B1 H1) (hp : H1 p = none) (h0 : out 0 = []) : LcI B1 H1 p out 0 (upd H1 p (.lst [])) :=
  ⟨B1, [], ⟨Ex.refl _, Ex.mut e (fresh_back e hp), Ex.new hp, fun _ h _ => h⟩, ⟨hp, fresh_back e hp, upd_same⟩, by rw [h0]; exact .nil⟩
theorem lcI_turn {B1 H1 H' : Hp} {p : Addr} {out : Nat → List Dt} {i : Nat} {c : Bool} {σ2 : L2.St} (q : LcI B1 H1 p out i H') (hz : (out i).length < 100000) (ht : EvC t σ2 B1 c) (he : c = true → EvR te σ2 B1 d)
    (hs : out (i + 1) = if c = true then out i ++ [d] else out i) :
    t σ2 H' fun b H3 => if b = true then te σ2 H3 fun y H4 => ∃ acc, H4 p = some (.lst acc) ∧ acc.length < sizeLine ∧ LcI B1 H1 p out (i + 1) (upd H4 p (.lst (acc ++ [y]))) else LcI B1 H1 p out (i + 1) H3 := by
  obtain ⟨B', acc, n, o, ra⟩ := q
  refine ht H' (n.ext.trans n.sub) _ fun H3 e3 => ?_
  have n3 : New B' H' B' H3 := New.grow (n.sub.trans e3) e3 n.sub
  cases c with
  | true =>
    show te σ2 H3 _
    refine ((he rfl).mono n.ext) H3 n3.sub _ fun v B4 H4 n4 rv => ?_
    have o4 := (o.step n3).step n4
    refine ⟨acc, o4.h, sz_lt (by rw [ra.len]; exact hz), B4, acc ++ [v], (((n.trans n3).trans n4).put o4), o4.put, ?_⟩
    rw [hs]
    exact (ra.mono n4.ext).append (RA.one rv)
  | false =>
    show LcI B1 H1 p out (i + 1) H3
    exact ⟨B', acc, n.trans n3, o.step n3, by rw [hs]; exact ra⟩
theorem outs_step {α : Type} {l : List α} {c : α → Bool} {f : α → Dt} {i : Nat} {q : α} (h : l[i]? = some q) : ((l.take (i + 1)).filter c).map f = if c q = true then ((l.take i).filter c).map f ++ [f q] else ((l.take i).filter c).map f := by
  rw [List.take_add_one, h, Option.toList_some, List.filter_append, List.map_append]
  by_cases hc : c q = true
  · rw [if_pos hc, List.filter_cons, if_pos hc]; rfl
  · rw [if_neg hc, List.filter_cons, if_neg hc]
    show _ ++ [] = _
    rw [List.append_nil]
theorem outs_len {α : Type} {l : List α} {c : α → Bool} {f : α → Dt} (i : Nat) : (((l.take i).filter c).map f).length ≤ l.length := by
  rw [List.length_map]
  exact Nat.le_trans (List.length_filter_le _ _) (by rw [List.length_take]; omega)
/-- [te for j in tl if t], over a list of the data enc q -/
theorem ev_lc {α : Type} {l : List α} {enc : α → Dt} {c : α → Bool} {f : α → Dt} {vs : List Nat} (h : EvR ta σ B (.lst (l.map enc))) (hz : l.length < 100000) (hw : ∀ x, wipe ((wipe σ vs).set j (some x)) vs = wipe σ vs)
    (ht : ∀ q v B1, q ∈ l → Ex B B1 → R B1 v (enc q) → EvC t ((wipe σ vs).set j (some v)) B1 (c q)) (he : ∀ q v B1, q ∈ l → Ex B B1 → R B1 v (enc q) → c q = true → EvR te ((wipe σ vs).set j (some v)) B1 (f q)) :
    EvR (tLc (iList K ta) (gName j) t te vs) σ B (.lst ((l.filter c).map f)) := fun H0 e0 Q k => h H0 e0 _ fun v B1 H1 n rv => by
  obtain ⟨p, us, rfl, hp, ra⟩ := rv.lst_inv
  refine ⟨p, rfl, ⟨us, sq_of (n.sub _ _ hp)⟩, fun q hq => ?_⟩
  have hl : us.length = l.length := by rw [ra.len, List.length_map]
  refine lc_list (xs := us) (LcI B1 H1 q fun i => ((l.take i).filter c).map f) (lcI_start n.sub hq rfl) (fun i H' _ z => ?_) (fun i x H' hi z => ⟨hw x, ?_⟩) (fun H' z => ?_)
  · obtain ⟨B', acc, n', _, _⟩ := z
    exact sq_of (n'.sub _ _ (n'.ext _ _ hp))
  · obtain ⟨d, hd, rd⟩ := ra.getV hi
    rw [List.getElem?_map] at hd
    cases hq' : l[i]? with
    | none => rw [hq'] at hd; cases hd
    | some a =>
      rw [hq'] at hd
      cases hd
      have hm := List.mem_of_getElem? hq'
      exact lcI_turn z (Nat.lt_of_le_of_lt (outs_len i) hz) (ht a x B1 hm n.ext rd) (fun hc => he a x B1 hm n.ext rd hc) (outs_step hq')
  · obtain ⟨B', acc, n', o, ra'⟩ := z
    rw [hl] at ra'
    have ra' : RA B' acc (((l.take l.length).filter c).map f) := ra'
    rw [List.take_length] at ra'
    exact k _ _ H' ((n.trans (n'.give ⟨o.h0, o.b, o.h⟩))) (o.data ra')
/-- without a test -/
theorem ev_lc1 {α : Type} {l : List α} {enc : α → Dt} {f : α → Dt} {vs : List Nat} (h : EvR ta σ B (.lst (l.map enc))) (hz : l.length < 100000) (hw : ∀ x, wipe ((wipe σ vs).set j (some x)) vs = wipe σ vs)
    (he : ∀ q v B1, q ∈ l → Ex B B1 → R B1 v (enc q) → EvR te ((wipe σ vs).set j (some v)) B1 (f q)) : EvR (tLc (iList K ta) (gName j) tYes te vs) σ B (.lst (l.map f)) := by
  have g := ev_lc (K := K) (t := tYes) (c := fun _ => true) (f := f) h hz hw (fun _ _ _ _ _ _ => ec_yes) (fun q v B1 h1 h2 h3 _ => he q v B1 h1 h2 h3)
  rw [List.filter_eq_self.mpr (fun _ _ => rfl)] at g
  exact g
/-- over a tuple -/
theorem ev_lcT {α : Type} {l : List α} {enc : α → Dt} {c : α → Bool} {f : α → Dt} {vs : List Nat} (h : EvR ta σ B (.tup (l.map enc))) (hz : l.length < 100000) (hw : ∀ x, wipe ((wipe σ vs).set j (some x)) vs = wipe σ vs)
    (ht : ∀ q v B1, q ∈ l → Ex B B1 → R B1 v (enc q) → EvC t ((wipe σ vs).set j (some v)) B1 (c q)) (he : ∀ q v B1, q ∈ l → Ex B B1 → R B1 v (enc q) → c q = true → EvR te ((wipe σ vs).set j (some v)) B1 (f q)) :
    EvR (tLc (iTup K ta) (gName j) t te vs) σ B (.lst ((l.filter c).map f)) := fun H0 e0 Q k => h H0 e0 _ fun v B1 H1 n rv => by
  obtain ⟨p, us, rfl, hp, ra⟩ := rv.tup_inv
  refine ⟨p, rfl, ⟨us, st_of (n.sub _ _ hp)⟩, fun q hq => ?_⟩
  have hl : us.length = l.length := by rw [ra.len, List.length_map]
  refine lc_tup (xs := us) (LcI B1 H1 q fun i => ((l.take i).filter c).map f) (lcI_start n.sub hq rfl) (fun i H' _ z => ?_) (fun i x H' hi z => ⟨hw x, ?_⟩) (fun H' z => ?_)
  · obtain ⟨B', acc, n', _, _⟩ := z
    exact st_of (n'.sub _ _ (n'.ext _ _ hp))
  · obtain ⟨d, hd, rd⟩ := ra.getV hi
    rw [List.getElem?_map] at hd
    cases hq' : l[i]? with
    | none => rw [hq'] at hd; cases hd
    | some a =>
      rw [hq'] at hd
      cases hd
      have hm := List.mem_of_getElem? hq'
      exact lcI_turn z (Nat.lt_of_le_of_lt (outs_len i) hz) (ht a x B1 hm n.ext rd) (fun hc => he a x B1 hm n.ext rd hc) (outs_step hq')
  · obtain ⟨B', acc, n', o, ra'⟩ := z
    rw [hl] at ra'
    have ra' : RA B' acc (((l.take l.length).filter c).map f) := ra'
    rw [List.take_length] at ra'
    exact k _ _ H' ((n.trans (n'.give ⟨o.h0, o.b, o.h⟩))) (o.data ra')
theorem ev_lcT1 {α : Type} {l : List α} {enc : α → Dt} {f : α → Dt} {vs : List Nat} (h : EvR ta σ B (.tup (l.map enc))) (hz : l.length < 100000) (hw : ∀ x, wipe ((wipe σ vs).set j (some x)) vs = wipe σ vs)
    (he : ∀ q v B1, q ∈ l → Ex B B1 → R B1 v (enc q) → EvR te ((wipe σ vs).set j (some v)) B1 (f q)) : EvR (tLc (iTup K ta) (gName j) tYes te vs) σ B (.lst (l.map f)) := by
  have g := ev_lcT (K := K) (t := tYes) (c := fun _ => true) (f := f) h hz hw (fun _ _ _ _ _ _ => ec_yes) (fun q v B1 h1 h2 h3 _ => he q v B1 h1 h2 h3)
  rw [List.filter_eq_self.mpr (fun _ _ => rfl)] at g
  exact g
/-- over range(n) -/
theorem ev_lcR {n : Int} {c : Nat → Bool} {f : Nat → Dt} {vs : List Nat} (h : EvRA tl σ B [.int n]) (hz : 0 ≤ n ∧ n < 100000) (hw : ∀ x, wipe ((wipe σ vs).set j (some x)) vs = wipe σ vs)
    (ht : ∀ (q : Nat) B1, (q : Int) < n → Ex B B1 → EvC t ((wipe σ vs).set j (some (.int (q : Int)))) B1 (c q)) (he : ∀ (q : Nat) B1, (q : Int) < n → Ex B B1 → c q = true → EvR te ((wipe σ vs).set j (some (.int (q : Int)))) B1 (f q)) :
    EvR (tLc (iRng1 tl) (gName j) t te vs) σ B (.lst (((List.range n.toNat).filter c).map f)) := fun H0 e0 Q k => h H0 e0 _ fun v B1 H1 nw rv => by
  cases rv with | cons r1 rv =>
  cases r1; cases rv
  refine ⟨n, rfl, by omega, by omega, fun q hq => ?_⟩
  have hl : (List.range n.toNat).length = n.toNat := List.length_range
  refine lc_range (lo := 0) (n := n.toNat) (LcI B1 H1 q fun i => (((List.range n.toNat).take i).filter c).map f) (lcI_start nw.sub hq rfl) (fun i H' hi z => ?_) (fun H' z => ?_)
  · have e0 : (0 : Int) + (i : Int) = (i : Int) := Int.zero_add _
    rw [e0]
    have hq' : (List.range n.toNat)[i]? = some i := by rw [List.getElem?_range hi]
    exact ⟨hw _, lcI_turn z (Nat.lt_of_le_of_lt (outs_len i) (by omega)) (ht i B1 (by omega) nw.ext) (fun hc => he i B1 (by omega) nw.ext hc) (outs_step hq')⟩
  · obtain ⟨B', acc, n', o, ra'⟩ := z
    have ra' : RA B' acc ((((List.range n.toNat).take n.toNat).filter c).map f) := ra'
    rw [List.take_of_length_le (by omega)] at ra'
    exact k _ _ H' ((nw.trans (n'.give ⟨o.h0, o.b, o.h⟩))) (o.data ra')
theorem ev_lcR1 {n : Int} {f : Nat → Dt} {vs : List Nat} (h : EvRA tl σ B [.int n]) (hz : 0 ≤ n ∧ n < 100000) (hw : ∀ x, wipe ((wipe σ vs).set j (some x)) vs = wipe σ vs)
    (he : ∀ (q : Nat) B1, (q : Int) < n → Ex B B1 → EvR te ((wipe σ vs).set j (some (.int (q : Int)))) B1 (f q)) : EvR (tLc (iRng1 tl) (gName j) tYes te vs) σ B (.lst ((List.range n.toNat).map f)) := by
  have g := ev_lcR (t := tYes) (c := fun _ => true) (f := f) h hz hw (fun _ _ _ _ => ec_yes) (fun q B1 h1 h2 _ => he q B1 h1 h2)
  rw [List.filter_eq_self.mpr (fun _ _ => rfl)] at g
  exact g

/-! ### promises by data -/
def spD (g : List Dt → Dt → Prop) : Sp := fun vs H Q _ => ∃ B ds d, Ex B H ∧ RA B vs ds ∧ g ds d ∧ ∀ v B2 H2, New B H B2 H2 → R B2 v d → Q v H2
theorem ev_call {g : List Dt → Dt → Prop} {E : XK} (h : EvRA tl σ B ds) (hg : g ds d) : EvR (tCall (spD g) [] E tl) σ B d := fun H1 e Q q => h H1 e _ fun vs B1 H2 n ra => by
  refine ⟨B1, ds, d, n.sub, ?_, hg, fun v B2 H2 n2 rv => q v B2 H2 (n.trans n2) rv⟩
  rw [List.append_nil]
  exact ra
theorem ev_callK {g : List Dt → Dt → Prop} {E : XK} {gV : List V → List V → List V} {gD : List Dt → List Dt → List Dt} (h : EvRA tl σ B ds) (hk : EvRA tk σ B es) (rel : ∀ B vs ws as bs, RA B vs as → RA B ws bs → as.length = ds.length → bs.length = es.length → RA B (gV vs ws) (gD as bs)) (hg : g (gD ds es) d) :
    EvR (tCallK (spD g) gV E tl tk) σ B d := fun H1 e Q q => h H1 e _ fun vs B1 H2 n ra => (hk.mono n.ext) H2 n.sub _ fun ws B2 H3 n2 rb =>
  ⟨B2, _, d, n2.sub, rel B2 vs ws ds es (ra.mono n2.ext) rb rfl rfl, hg, fun v B3 H4 n3 rv => q v B3 H4 ((n.trans n2).trans n3) rv⟩
end
section
variable {P : Program} {w : World} {K : PySem.W.Frag} {mg : Str → Option Value} {base : Heap}
open PySem.Spec PyProof.Rows in
/-- a def by its body, by data -/
theorem fn_D {x qual : Str} {st : Stmt} {f : Addr} {fd : FuncData} {N ps : List Str} {k : Nat} {g : List Dt → Dt → Prop} (F : Fun K x qual st f fd) (S : FnScope N ps (defScope st)) (len : ∀ ds d, g ds d → ds.length = ps.length)
    (body : ∀ (cdv : Value) (Γ : Around) (below : List Env) (s : Shared) (B H : Hp) (vs : List V) (ds : List Dt) (d : Dt) (Q : VK) (E : XK), Γ.guards = some [] → Room k (Γ.deeper (envOfC qual (defScope st) s.heap.objs.size f cdv)) →
      Ex B H → RA B vs ds → g ds d → (∀ v B2 H2, New B H B2 H2 → R B2 v d → Q v H2) →
      ∃ t, PSs (cxOf CX0 P w K mg base N qual (defScope st) f cdv Γ below s H E).nox (defBody st) t ∧ t { nx := fun _ H' => Q .non H', rt := Q } (start N vs) H) : FnG P w K mg base CX0 (k + 1) f fd ps (spD g) := by
  obtain ⟨oc, od, kV, doc, pm, an, cdv, ct, osl, rfl, lk, hcd⟩ := F.ex
  refine fnG_of lk hcd S (fun vs H Q E h => ?_) (fun Γ below s H vs Q E hg hr h => ?_)
  · obtain ⟨B, ds, d, _, ra, hd, _⟩ := h
    rw [ra.len]
    exact len ds d hd
  · obtain ⟨B, ds, d, e, ra, hd, q⟩ := h
    obtain ⟨t, h1, h2⟩ := body cdv Γ below s B H vs ds d Q E hg hr e ra hd q
    exact ⟨t, h1.nox, h2⟩
end
end U

namespace U
open PySem L2 Evl

section
variable {X : Cx}
theorem op_addA : OpR X (binaryOp .Add) (rOr (rI0 fun i j => .int (i + j)) rCat) := op_add.or op_cat
theorem op_eqA (hu : X.A.units + 64 < cLine) : OpR X (compareOp .Eq) (rOr rEq (rEqD X.K)) := op_eq.or (op_eqD hu)
theorem op_neA (hu : X.A.units + 64 < cLine) : OpR X (compareOp .NotEq) (rOr rNe (rNeD X.K)) := op_ne.or (op_neD hu)
theorem op_isT : OpR X (compareOp .Is) rIsTy := op_isTy
theorem c_len : CallR X (.builtin "len") (rLenS X.K) := call_len_seq
theorem c_list : CallR X (.type "list") (rListS X.K) := call_list_of
theorem c_tuple : CallR X (.type "tuple") (rTupleS X.K) := call_tuple_of
theorem c_abs : CallR X (.builtin "abs") rAbs := call_abs
theorem c_int : CallR X (.type "int") rInt1 := call_int1
theorem c_max (h : X.calm = true) : CallR X (.builtin "max") rMax2 := call_max2 h
theorem c_min (h : X.calm = true) : CallR X (.builtin "min") rMin2 := call_min2 h
def rReprD : List V → Hp → VK → Prop := fun xs H Q => rRepr H xs Q
theorem c_repr (g : X.A.guards = some []) (hu : X.A.units + 64 < cLine) : CallR X (.builtin "repr") rReprD := call_repr g hu
theorem rl_reprD {d : Dt} (hq : isSeq d = true) (f : Fit d) : RL rReprD [d] (.str d.py.shown) := rl_repr hq f
end
/-! ### walking a list or a tuple, whichever it is -/
def iSeq (K : PySem.W.Frag) (tl : TE) : TI := fun σ H R => tl σ H fun x H1 => ∃ a, x = .ref a ∧ (((∃ xs, SqL K H1 a xs) ∧ R (Itl K a) H1) ∨ ((∃ xs, SqT K H1 a xs) ∧ R (Itt K a) H1))
open PySem.Spec PyProof.Rows in
theorem pi_seq {X : Cx} {tg l : Expr} {tl : TE} (hl : PE X l tl) : PI X tg l (iSeq X.K tl) := by
  constructor
  intro pins s σ H R I h
  refine thn (hl.run pins s σ H _ I h) ?_
  rintro v s1 ⟨x, H1, I1, rx, a, ex, both⟩
  rw [ex] at rx
  have ev : v = .ref a := rx
  rw [ev]
  have mine : ∀ b ∈ [s1.heap.objs.size], FpOk X pins H1 b := by
    intro b hb
    rw [List.mem_singleton.mp hb]
    exact I1.fpOk (Nat.le_refl _) (I1.hok.fresh (Nat.le_refl _))
  rcases both with ⟨⟨xs, hq⟩, q⟩ | ⟨⟨xs, hq⟩, q⟩
  · obtain ⟨its, _, p, _⟩ := I1.list hq
    apply wpAny_pyIter_list p.isList
    exact ⟨_, _, _, _, H1, rfl, I1.kept (t' := s1.toks) (fun b o e => Heap.get?_push_of_some _ e), turn_list a _, ⟨_, Heap.get?_push_size _ rfl, rfl, rfl⟩, mine, q⟩
  · obtain ⟨its, _, p, _⟩ := I1.tuple hq
    apply wpAny_pyIter_tuple (show s1.heap.IsTuple a its.toArray from p)
    exact ⟨_, _, _, _, H1, rfl, I1.kept (t' := s1.toks) (fun b o e => Heap.get?_push_of_some _ e), turn_tuple a _, ⟨_, Heap.get?_push_size _ rfl, rfl, rfl⟩, mine, q⟩
section
variable {K : PySem.W.Frag} {σ : L2.St} {B B' H : Hp} {ta te : TE} {t : TT} {ds : List Dt} {j : Nat} {D : Ends} {tu : TS} {g : TG}
def isL : Dt → Prop
  | .lst _ => True
  | _ => False
/-- the items of a list or a tuple -/
inductive Items : Dt → List Dt → Prop
  | lst (ds : List Dt) : Items (.lst ds) ds
  | tup (ds : List Dt) : Items (.tup ds) ds
theorem q_for {d : Dt} (e : Ex B H) (h : EvR te σ B d) (it : Items d ds) (Pv : Hp → Hp → Nat → L2.St → Hp → Prop) (h0 : ∀ B1 H1, New B H B1 H1 → Pv B1 H1 0 σ H1) (hx : ∀ B1 H1 i σ' H', Pv B1 H1 i σ' H' → Ex B1 H')
    (hs : ∀ B1 H1 i d v σ' H', New B H B1 H1 → ds[i]? = some d → R B1 v d → Pv B1 H1 i σ' H' → g v σ' H' fun σ2 H2 => tu { D with nx := Pv B1 H1 (i + 1), ct := Pv B1 H1 (i + 1), bk := D.nx } σ2 H2)
    (hd : ∀ B1 H1 σ' H', New B H B1 H1 → Pv B1 H1 ds.length σ' H' → D.nx σ' H') : tFor (iSeq K te) g tu D σ H := h H e _ fun v B1 H1 n rv => by
  cases it with
  | lst =>
    obtain ⟨p, vs, rfl, hp, ra⟩ := rv.lst_inv
    refine ⟨p, rfl, .inl ⟨⟨vs, sq_of (n.sub _ _ hp)⟩, for_list (K := K) (a := p) (xs := vs) (Pv B1 H1) (h0 B1 H1 n) (fun i σ' H' _ q => sq_of (hx B1 H1 i σ' H' q _ _ hp)) (fun i v σ' H' hi q => ?_) (fun σ' H' q => hd B1 H1 σ' H' n (by rw [← ra.len]; exact q))⟩⟩
    obtain ⟨d, hd', rd⟩ := ra.getV hi
    exact hs B1 H1 i d v σ' H' n hd' rd q
  | tup =>
    obtain ⟨p, vs, rfl, hp, ra⟩ := rv.tup_inv
    refine ⟨p, rfl, .inr ⟨⟨vs, st_of (n.sub _ _ hp)⟩, for_tup (K := K) (a := p) (xs := vs) (Pv B1 H1) (h0 B1 H1 n) (fun i σ' H' _ q => st_of (hx B1 H1 i σ' H' q _ _ hp)) (fun i v σ' H' hi q => ?_) (fun σ' H' q => hd B1 H1 σ' H' n (by rw [← ra.len]; exact q))⟩⟩
    obtain ⟨d, hd', rd⟩ := ra.getV hi
    exact hs B1 H1 i d v σ' H' n hd' rd q
theorem q_lc {d : Dt} {α : Type} {l : List α} {enc : α → Dt} {c : α → Bool} {f : α → Dt} {vs : List Nat} (h : EvR ta σ B d) (it : Items d (l.map enc)) (hz : l.length < 100000) (hw : ∀ x, wipe ((wipe σ vs).set j (some x)) vs = wipe σ vs)
    (ht : ∀ q v B1, q ∈ l → Ex B B1 → R B1 v (enc q) → EvC t ((wipe σ vs).set j (some v)) B1 (c q)) (he : ∀ q v B1, q ∈ l → Ex B B1 → R B1 v (enc q) → c q = true → EvR te ((wipe σ vs).set j (some v)) B1 (f q)) :
    EvR (tLc (iSeq K ta) (gName j) t te vs) σ B (.lst ((l.filter c).map f)) := fun H0 e0 Q k => h H0 e0 _ fun v B1 H1 n rv => by
  cases it with
  | lst =>
    obtain ⟨p, us, rfl, hp, ra⟩ := rv.lst_inv
    have g := ev_lc (K := K) (σ := σ) (B := B1) (ta := fun σ H Q => Q (.ref p) H) (fun H1 e Q q => q _ B1 H1 (New.refl e) (.lst hp ra)) hz hw (fun q v B2 h1 h2 h3 => ht q v B2 h1 (n.ext.trans h2) h3) (fun q v B2 h1 h2 h3 h4 => he q v B2 h1 (n.ext.trans h2) h3 h4)
    obtain ⟨a, e1, h1, h2⟩ := g H1 n.sub Q fun v B2 H2 n2 r2 => k v B2 H2 (n.trans n2) r2
    exact ⟨a, e1, .inl ⟨h1, h2⟩⟩
  | tup =>
    obtain ⟨p, us, rfl, hp, ra⟩ := rv.tup_inv
    have g := ev_lcT (K := K) (σ := σ) (B := B1) (ta := fun σ H Q => Q (.ref p) H) (fun H1 e Q q => q _ B1 H1 (New.refl e) (.tup hp ra)) hz hw (fun q v B2 h1 h2 h3 => ht q v B2 h1 (n.ext.trans h2) h3) (fun q v B2 h1 h2 h3 h4 => he q v B2 h1 (n.ext.trans h2) h3 h4)
    obtain ⟨a, e1, h1, h2⟩ := g H1 n.sub Q fun v B2 H2 n2 r2 => k v B2 H2 (n.trans n2) r2
    exact ⟨a, e1, .inr ⟨h1, h2⟩⟩
theorem q_lc1 {d : Dt} {α : Type} {l : List α} {enc : α → Dt} {f : α → Dt} {vs : List Nat} (h : EvR ta σ B d) (it : Items d (l.map enc)) (hz : l.length < 100000) (hw : ∀ x, wipe ((wipe σ vs).set j (some x)) vs = wipe σ vs)
    (he : ∀ q v B1, q ∈ l → Ex B B1 → R B1 v (enc q) → EvR te ((wipe σ vs).set j (some v)) B1 (f q)) : EvR (tLc (iSeq K ta) (gName j) tYes te vs) σ B (.lst (l.map f)) := by
  have g := q_lc (K := K) (t := tYes) (c := fun _ => true) (f := f) h it hz hw (fun _ _ _ _ _ _ => ec_yes) (fun q v B1 h1 h2 h3 _ => he q v B1 h1 h2 h3)
  rw [List.filter_eq_self.mpr (fun _ _ => rfl)] at g
  exact g
end
section
variable {K : PySem.W.Frag} {mg : Str → Option Value}
/-- a def of the text and where it stands -/
structure At (K : PySem.W.Frag) (mg : Str → Option Value) (x : Str) (st : Stmt) (f : Addr) (fd : FuncData) : Prop where
  F : Fun K x x st f fd
  at_ : mg x = some (.ref f)
theorem kb_of {x qual : Str} {st : Stmt} {f : Addr} {fd : FuncData} {ps ks : List Str} {gg : List Value → List Value → List Value} {gV : List V → List V → List V} (F : Fun K x qual st f fd)
    (h : ∀ (kV doc pm : Value) (an : Option Addr) (cdv ct : Value) (us ws : List Value), (gg us ws).length = ps.length → bindArgs (PySem.W.fnOf x qual (defArgs st) (defBody st) (defScope st) .none kV doc pm an cdv ct) ⟨us, ks.zip ws⟩ = pure (ps.zip (gg us ws)))
    (rel : ∀ {vs : List V} {us : List Value} {zs : List V} {ws : List Value}, Vals vs us → Vals zs ws → Vals (gV vs zs) (gg us ws)) : KBinds K fd ps ks gg gV := by
  obtain ⟨oc, od, kV, doc, pm, an, cdv, ct, osl, rfl, lk, hcd⟩ := F.ex
  exact ⟨fun s us ws _ hl => .of_eq (h kV doc pm an cdv ct us ws hl), rel⟩
end
end U

namespace U
open PySem L2
open Evl (Ex fresh_back sz_of sz_lt sq_of st_of rLenS rListS)

theorem set_same {α : Type} {x : α} : ∀ {l : List α} {i : Nat}, l[i]? = some x → l.set i x = l
  | [], _, h => by simp at h
  | y :: l, 0, h => by simp at h; rw [h]; rfl
  | y :: l, i + 1, h => by rw [List.set_cons_succ, set_same (by simpa using h)]
/-- a new list, in nobody's hands -/
def EvL (te : TE) (σ : L2.St) (B : Hp) (ds : List Dt) : Prop := ∀ H1, Ex B H1 → ∀ Q : VK, (∀ p vs B2 H2, New B H1 B2 H2 → Own H1 B2 H2 p vs → RA B2 vs ds → Q (.ref p) H2) → te σ H1 Q
section
variable {K : PySem.W.Frag} {σ : L2.St} {B B' H : Hp} {ta tb te tc : TE} {t u : TT} {tl tr tk : TA} {x y z d : Dt} {xs ds es : List Dt} {r r' : R2} {a b : Bool} {j : Nat} {D : Ends} {tu tw tz : TS} {i k : Int}
theorem EvL.toR (h : EvL te σ B ds) : EvR te σ B (.lst ds) := fun H1 e Q q => h H1 e Q fun p vs B2 H2 n o ra => q _ _ H2 (n.give o) (o.data ra)
theorem EvL.is (h : EvL te σ B ds) (q : ds = es) : EvL te σ B es := q ▸ h
theorem own_new {p : Addr} {vs : List V} (e : Ex B H) (hp : H p = none) : New B H B (upd H p (.lst vs)) ∧ Own H B (upd H p (.lst vs)) p vs :=
  ⟨⟨Ex.refl _, Evl.Ex.mut e (fresh_back e hp), Evl.Ex.new hp, fun _ h _ => h⟩, ⟨hp, fresh_back e hp, upd_same⟩⟩
theorem New.own {B0 H0 B1 H1 B2 H2 : Hp} {p : Addr} {vs : List V} (n : New B0 H0 B1 H1) (o : Own H1 B2 H2 p vs) : Own H0 B2 H2 p vs :=
  ⟨fresh_back n.heap o.h0, o.b, o.h⟩
theorem el_lst (h : EvRA tl σ B ds) (hl : ds.length ≤ 100000) : EvL (tLst tl) σ B ds := fun H1 e Q q =>
  h H1 e _ fun vs B2 H2 n rv => ⟨by rw [rv.len]; exact sz_of hl, fun p hp => q p vs B2 _ (n.trans (own_new n.sub hp).1) (n.own (own_new n.sub hp).2) rv⟩
theorem el_list (h : EvR te σ B (.lst ds)) : EvL (tCB (rListS K) (tCons te tNil)) σ B ds := fun H1 e Q q =>
  h H1 e _ fun v B2 H2 n rv => by
    obtain ⟨p, vs, rfl, hp, ra⟩ := rv.lst_inv
    exact ⟨p, vs, rfl, .inl (sq_of (n.sub _ _ hp)), fun l hl => q l vs B2 _ (n.trans (own_new n.sub hl).1) (n.own (own_new n.sub hl).2) ra⟩
/-- a comprehension -/
theorem el_lc {α : Type} {l : List α} {enc : α → Dt} {c : α → Bool} {f : α → Dt} {vs : List Nat} (h : EvR ta σ B d) (it : Items d (l.map enc)) (hz : l.length < 100000) (hw : ∀ x, wipe ((wipe σ vs).set j (some x)) vs = wipe σ vs)
    (ht : ∀ q v B1, q ∈ l → Ex B B1 → R B1 v (enc q) → EvC t ((wipe σ vs).set j (some v)) B1 (c q)) (he : ∀ q v B1, q ∈ l → Ex B B1 → R B1 v (enc q) → c q = true → EvR te ((wipe σ vs).set j (some v)) B1 (f q)) :
    EvL (tLc (iSeq K ta) (gName j) t te vs) σ B ((l.filter c).map f) := fun H0 e0 Q k => h H0 e0 _ fun v B1 H1 n rv => by
  have main : ∀ (J : It) (us : List V) (ra : RA B1 us (l.map enc)), ∀ q, H1 q = none → (∀ i x H', us[i]? = some x → LcI B1 H1 q (fun i => ((l.take i).filter c).map f) i H' →
      t ((wipe σ vs).set j (some x)) H' fun b H3 => if b = true then te ((wipe σ vs).set j (some x)) H3 fun y H4 => ∃ acc, H4 q = some (.lst acc) ∧ acc.length < sizeLine ∧ LcI B1 H1 q (fun i => ((l.take i).filter c).map f) (i + 1) (upd H4 q (.lst (acc ++ [y]))) else LcI B1 H1 q (fun i => ((l.take i).filter c).map f) (i + 1) H3) := by
    intro J us ra q hq i x H' hi zz
    obtain ⟨d, hd, rd⟩ := ra.getV hi
    rw [List.getElem?_map] at hd
    cases hq' : l[i]? with
    | none => rw [hq'] at hd; cases hd
    | some a =>
      rw [hq'] at hd
      cases hd
      have hm := List.mem_of_getElem? hq'
      exact lcI_turn zz (Nat.lt_of_le_of_lt (outs_len i) hz) (ht a x B1 hm n.ext rd) (fun hc => he a x B1 hm n.ext rd hc) (outs_step hq')
  have fin : ∀ (us : List V), RA B1 us (l.map enc) → ∀ q H', LcI B1 H1 q (fun i => ((l.take i).filter c).map f) us.length H' → Q (.ref q) H' := by
    intro us ra q H' zz
    have hl : us.length = l.length := by rw [ra.len, List.length_map]
    obtain ⟨B', acc, n', o, ra'⟩ := zz
    rw [hl] at ra'
    have ra' : RA B' acc (((l.take l.length).filter c).map f) := ra'
    rw [List.take_length] at ra'
    exact k q acc B' H' (n.trans n') ⟨fresh_back n.heap o.h0, o.b, o.h⟩ ra'
  cases it with
  | lst =>
    obtain ⟨p, us, rfl, hp, ra⟩ := rv.lst_inv
    refine ⟨p, rfl, .inl ⟨⟨us, sq_of (n.sub _ _ hp)⟩, fun q hq => ?_⟩⟩
    exact lc_list (xs := us) (LcI B1 H1 q fun i => ((l.take i).filter c).map f) (lcI_start n.sub hq rfl) (fun i H' _ ⟨B', acc, n', _, _⟩ => sq_of (n'.sub _ _ (n'.ext _ _ hp))) (fun i x H' hi zz => ⟨hw x, main (Itl K p) us ra q hq i x H' hi zz⟩) (fun H' zz => fin us ra q H' zz)
  | tup =>
    obtain ⟨p, us, rfl, hp, ra⟩ := rv.tup_inv
    refine ⟨p, rfl, .inr ⟨⟨us, st_of (n.sub _ _ hp)⟩, fun q hq => ?_⟩⟩
    exact lc_tup (xs := us) (LcI B1 H1 q fun i => ((l.take i).filter c).map f) (lcI_start n.sub hq rfl) (fun i H' _ ⟨B', acc, n', _, _⟩ => st_of (n'.sub _ _ (n'.ext _ _ hp))) (fun i x H' hi zz => ⟨hw x, main (Itt K p) us ra q hq i x H' hi zz⟩) (fun H' zz => fin us ra q H' zz)
theorem el_lc1 {α : Type} {l : List α} {enc : α → Dt} {f : α → Dt} {vs : List Nat} (h : EvR ta σ B d) (it : Items d (l.map enc)) (hz : l.length < 100000) (hw : ∀ x, wipe ((wipe σ vs).set j (some x)) vs = wipe σ vs)
    (he : ∀ q v B1, q ∈ l → Ex B B1 → R B1 v (enc q) → EvR te ((wipe σ vs).set j (some v)) B1 (f q)) : EvL (tLc (iSeq K ta) (gName j) tYes te vs) σ B (l.map f) := by
  have g := el_lc (K := K) (t := tYes) (c := fun _ => true) (f := f) h it hz hw (fun _ _ _ _ _ _ => ec_yes) (fun q v B1 h1 h2 h3 _ => he q v B1 h1 h2 h3)
  rw [List.filter_eq_self.mpr (fun _ _ => rfl)] at g
  exact g
/-- a promise: a new list -/
def spL (g : List Dt → List Dt → Prop) : Sp := fun vs H Q _ => ∃ B as ds, Ex B H ∧ RA B vs as ∧ g as ds ∧ ∀ p us B2 H2, New B H B2 H2 → Own H B2 H2 p us → RA B2 us ds → Q (.ref p) H2
theorem el_call {g : List Dt → List Dt → Prop} {E : XK} (h : EvRA tl σ B xs) (hg : g xs ds) : EvL (tCall (spL g) [] E tl) σ B ds := fun H1 e Q q => h H1 e _ fun vs B1 H2 n ra => by
  refine ⟨B1, xs, ds, n.sub, by rw [List.append_nil]; exact ra, hg, fun p us B2 H3 n2 o r2 => q p us B2 H3 (n.trans n2) (n.own o) r2⟩
theorem s_asgL {q : Nat} (e : Ex B H) (h : EvL te σ B ds) (k : ∀ p vs B1 H1, New B H B1 H1 → Own H B1 H1 p vs → RA B1 vs ds → D.nx (σ.set q (some (.ref p))) H1) : tAsg te (gName q) D σ H := h H e _ k
theorem s_retL (e : Ex B H) (h : EvL te σ B xs) (q : xs = ds) (k : ∀ p vs B1 H1, New B H B1 H1 → Own H B1 H1 p vs → RA B1 vs ds → D.rt (.ref p) H1) : tRet te D σ H := h H e _ fun p vs B1 H1 n o ra => k p vs B1 H1 n o (q ▸ ra)
/-- a < b < c -/
theorem ev_chain (ha : EvR ta σ B x) (hb : EvR tb σ B y) (hr : RV r x y (.bl a)) (hc : a = true → EvR tc σ B z) (hr' : a = true → RV r' y z (.bl b)) : EvR (tChain r r' ta tb tc) σ B (.bl (a && b)) := fun H1 e Q q =>
  ha H1 e _ fun v B2 H2 n rv => (hb.mono n.ext) H2 n.sub _ fun w B3 H3 n2 rw => hr B3 H3 v w n2.sub (rv.mono n2.ext) rw _ fun c B4 H4 n3 rc => by
    cases rc
    refine ⟨a, rfl, ?_⟩
    have n4 := (n.trans n2).trans n3
    cases a with
    | false => exact q _ B4 H4 n4 (.bl false)
    | true =>
      show tc σ H4 _
      exact ((hc rfl).mono n4.ext) H4 n4.sub _ fun u B5 H5 n5 ru => hr' rfl B5 H5 w u n5.sub (rw.mono (n3.ext.trans n5.ext)) ru Q fun c B6 H6 n6 rc => q c B6 H6 ((n4.trans n5).trans n6) rc
/-- false on the left -/
theorem ev_andF (h1 : EvR ta σ B (.bl a)) (h : a = false) : EvR (tAndV ta tb) σ B (.bl false) := by
  have g := ev_and (tb := tb) (b := false) h1 (fun e => by rw [h] at e; cases e)
  rw [h] at g
  exact g
/-- if c: x = e, x an int -/
theorem s_ifI {q : Nat} (e : Ex B H) (h : EvC t σ B b) (h1 : b = true → EvR te σ B (.int i)) (hx : σ[q]? = some (some (.int k))) (go : ∀ H1, Up B H H1 → D.nx (σ.set q (some (.int (if b = true then i else k)))) H1) : tIfS t (tAsg te (gName q)) tNext D σ H :=
  s_if e h (fun hb H1 u => (h1 hb) H1 u.sub _ fun v B2 H2 n rv => by
    cases rv
    have g := go H2 ⟨e, u.sub.trans n.heap, u.heap.trans n.heap⟩
    rw [if_pos hb] at g
    exact g) (fun hb H1 u => by
    have g := go H1 u
    rw [if_neg (by rw [hb]; exact Bool.false_ne_true)] at g
    have e0 : σ.set q (some (.int k)) = σ := set_same hx
    rw [e0] at g
    exact g)
/-- o[i] = e, o a list of one's own -/
theorem s_put {H0 : Hp} {p : Addr} {vs : List V} {n m : Nat} (e : Ex B H) (o : Own H0 B H p vs) (h : EvR te σ B d) (ho : σ[n]? = some (some (.ref p))) (hi : ∀ B1, Ex B B1 → EvR tb σ B1 (.int (m : Int))) (hm : m < vs.length)
    (go : ∀ v B1 H1, New B H B1 H1 → Own H0 B1 H1 p vs → R B1 v d → D.nx σ (upd H1 p (.lst (vs.set m v)))) : tAsg te (gSub (tVar n) tb rSetL) D σ H := h H e _ fun v B1 H1 n1 rv =>
  ⟨_, ho, (hi B1 n1.ext) H1 n1.sub _ fun w B2 H2 n2 rw => by
    cases rw
    have o2 := (o.step n1).step n2
    refine ⟨p, vs, m, m, rfl, rfl, o2.h, ?_, go v B2 H2 (n1.trans n2) o2 (rv.mono n2.ext)⟩
    unfold ixN
    simp only [Int.natCast_nonneg]
    first
      | (rw [if_pos (by omega)]; simp; done)
      | (simp [hm]; done)
      | (split <;> simp_all <;> omega)⟩
end
section
variable {P : Program} {w : World} {K : PySem.W.Frag} {mg : Str → Option Value} {base : Heap}
open PySem.Spec PyProof.Rows in
/-- a def by its body, whatever it promises -/
theorem fn_S {x qual : Str} {st : Stmt} {f : Addr} {fd : FuncData} {N ps : List Str} {k : Nat} {sp : Sp} (F : Fun K x qual st f fd) (S : FnScope N ps (defScope st)) (len : ∀ vs H Q E, sp vs H Q E → vs.length = ps.length)
    (body : ∀ (cdv : Value) (Γ : Around) (below : List Env) (s : Shared) (H : Hp) (vs : List V) (Q : VK) (E : XK), Γ.guards = some [] → Room k (Γ.deeper (envOfC qual (defScope st) s.heap.objs.size f cdv)) → sp vs H Q E →
      ∃ t, PSs (cxOf CX0 P w K mg base N qual (defScope st) f cdv Γ below s H E).nox (defBody st) t ∧ t { nx := fun _ H' => Q .non H', rt := Q } (start N vs) H) : FnG P w K mg base CX0 (k + 1) f fd ps sp := by
  obtain ⟨oc, od, kV, doc, pm, an, cdv, ct, osl, rfl, lk, hcd⟩ := F.ex
  refine fnG_of lk hcd S len (fun Γ below s H vs Q E hg hr h => ?_)
  obtain ⟨t, h1, h2⟩ := body cdv Γ below s H vs Q E hg hr h
  exact ⟨t, h1.nox, h2⟩
open PySem.Spec PyProof.Rows in
theorem fn_L {x qual : Str} {st : Stmt} {f : Addr} {fd : FuncData} {N ps : List Str} {k : Nat} {g : List Dt → List Dt → Prop} (F : Fun K x qual st f fd) (S : FnScope N ps (defScope st)) (len : ∀ ds d, g ds d → ds.length = ps.length)
    (body : ∀ (cdv : Value) (Γ : Around) (below : List Env) (s : Shared) (B H : Hp) (vs : List V) (as ds : List Dt) (Q : VK) (E : XK), Γ.guards = some [] → Room k (Γ.deeper (envOfC qual (defScope st) s.heap.objs.size f cdv)) →
      Ex B H → RA B vs as → g as ds → (∀ p us B2 H2, New B H B2 H2 → Own H B2 H2 p us → RA B2 us ds → Q (.ref p) H2) →
      ∃ t, PSs (cxOf CX0 P w K mg base N qual (defScope st) f cdv Γ below s H E).nox (defBody st) t ∧ t { nx := fun _ H' => Q .non H', rt := Q } (start N vs) H) : FnG P w K mg base CX0 (k + 1) f fd ps (spL g) := by
  refine fn_S F S (fun vs H Q E h => ?_) (fun cdv Γ below s H vs Q E hg hr h => ?_)
  · obtain ⟨B, as, ds, _, ra, hd, _⟩ := h
    rw [ra.len]
    exact len as ds hd
  · obtain ⟨B, as, ds, e, ra, hd, q⟩ := h
    exact body cdv Γ below s B H vs as ds Q E hg hr e ra hd q
end
theorem Own.up {H0 B H H1 : Hp} {p : Addr} {xs : List V} (o : Own H0 B H p xs) (u : Ex H H1) : Own H0 B H1 p xs := ⟨o.h0, o.b, u _ _ o.h⟩
theorem Own.ex {H0 B H : Hp} {p : Addr} {xs : List V} (e : Ex B H) (o : Own H0 B H p xs) : Ex (upd B p (.lst xs)) H := fun a u q => by
  by_cases ha : a = p
  · subst ha; rw [upd_same] at q; rw [← q]; exact o.h
  · rw [upd_ne ha] at q; exact e a u q
/-! ### data in short -/
abbrev eI (ns : List Int) : Dt := .lst (ns.map .int)
abbrev eSet (p q : List Int) : Dt := .tup [eI p, eI q]
abbrev eFr (a b : Int) : Dt := .tup [.int a, .int b]
theorem fitAll_ints {M : Nat} (hM : M ≤ 10 ^ 60) : ∀ (ns : List Int), (∀ n ∈ ns, n.natAbs < M) → fitAll (ns.map .int) = true
  | [], _ => by simp [fitAll]
  | n :: ns, h => by
    have h1 := h n List.mem_cons_self
    rw [List.map_cons, fitAll, fitAll_ints hM ns fun m hm => h m (List.mem_cons_of_mem _ hm), Dt.fit, decide_eq_true (by omega)]; rfl
theorem wtAll_ints : ∀ (ns : List Int), wtAll (ns.map .int) = ns.length
  | [] => rfl
  | n :: ns => by rw [List.map_cons, wtAll, wtAll_ints ns, Dt.wt, List.length_cons]; omega
theorem depAll_ints : ∀ (ns : List Int), depAll (ns.map .int) = 0
  | [] => rfl
  | n :: ns => by rw [List.map_cons, depAll, depAll_ints ns, Dt.dep]; rfl
theorem fit_eI {ns : List Int} (h : ∀ n ∈ ns, n.natAbs < 10 ^ 60) (hl : ns.length ≤ 1000) : Fit (eI ns) :=
  ⟨by rw [Dt.fit]; exact fitAll_ints (Nat.le_refl _) ns h, by rw [Dt.wt, wtAll_ints]; omega, by rw [Dt.dep, depAll_ints]; omega⟩
theorem fit_eSet {p q : List Int} (hp : ∀ n ∈ p, n.natAbs < 10 ^ 60) (hq : ∀ n ∈ q, n.natAbs < 10 ^ 60) (lp : p.length ≤ 1000) (lq : q.length ≤ 1000) : Fit (eSet p q) := by
  have h1 := fit_eI hp lp
  have h2 := fit_eI hq lq
  refine ⟨?_, ?_, ?_⟩
  · rw [Dt.fit, fitAll, fitAll, fitAll, h1.fit, h2.fit]; rfl
  · rw [Dt.wt, wtAll, wtAll, wtAll, Dt.wt, Dt.wt, wtAll_ints, wtAll_ints]; omega
  · rw [Dt.dep, depAll, depAll, depAll, Dt.dep, Dt.dep, depAll_ints, depAll_ints]; decide
theorem atI_ints {f : List Int} {i : Int} (h0 : 0 ≤ i) (h1 : i < f.length) : atI (f.map Dt.int) i = some (.int (f.getD i.toNat 0)) := by
  have e2 : i.toNat < f.length := by omega
  unfold atI ixN
  rw [List.length_map]
  first
    | (simp [h0, h1, e2]; done)
    | (simp [h0, h1, e2, List.getElem?_eq_getElem, List.getD]; done)
    | (split <;> simp_all [List.getElem?_eq_getElem, List.getD] <;> omega)
theorem eqv_nil {f : List Int} : PyData.eqv (eI f).py (Dt.lst []).py = decide (f = []) := by
  cases f with
  | nil => simp [Dt.py, pyAll, PyData.eqv, PyData.eqvAll]
  | cons x f => simp [Dt.py, pyAll, PyData.eqv, PyData.eqvAll]
theorem canLay_ints : ∀ (ns : List Int), PyData.canLayAll0 (pyAll (ns.map .int)) = true
  | [] => by simp [pyAll, PyData.canLayAll0]
  | n :: ns => by rw [List.map_cons, pyAll, PyData.canLayAll0, canLay_ints ns, Dt.py, PyData.canLay0]; rfl
theorem shaped_eI {ns : List Int} : SeqAt.shaped (eI ns).py = true := by
  unfold SeqAt.shaped
  rw [dep_py, Dt.dep, depAll_ints, Dt.py, PyData.canLay0, canLay_ints]
  rfl
theorem eqv_self {ns : List Int} : PyData.eqv (eI ns).py (eI ns).py = true := SeqAt.eqv_refl _ (SeqAt.canLay_of_shaped shaped_eI)
end U

namespace U
open PySem L2
open Evl (Ex fresh_back sz_of sz_lt sq_of st_of rLenS rListS)
section
variable {X : Cx} {K : PySem.W.Frag}
theorem k_seq {tg l : Expr} {tl : TE} (h : X.K = K) (hl : PE X l tl) : PI X tg l (iSeq K tl) := h ▸ pi_seq hl
theorem k_ix (h : X.K = K) : IxR X (rIx K) := h ▸ ix_seq
theorem k_eq (h : X.K = K) (hu : X.A.units + 64 < cLine) : OpR X (compareOp .Eq) (rOr rEq (rEqD K)) := h ▸ op_eqA hu
theorem k_ne (h : X.K = K) (hu : X.A.units + 64 < cLine) : OpR X (compareOp .NotEq) (rOr rNe (rNeD K)) := h ▸ op_neA hu
theorem k_len (h : X.K = K) : CallR X (.builtin "len") (rLenS K) := h ▸ c_len
theorem k_list (h : X.K = K) : CallR X (.type "list") (rListS K) := h ▸ c_list
theorem k_tuple (h : X.K = K) : CallR X (.type "tuple") (rTupleS K) := h ▸ c_tuple
theorem k_all (h : X.K = K) (hc : X.calm = true) : CallR X (.builtin "all") (rAll K) := h ▸ cr_all hc
theorem k_min (h : X.K = K) (hc : X.calm = true) : CallR X (.builtin "min") (L2.rMin K) := h ▸ cr_min hc
theorem k_isi (h : X.K = K) : CallR X (.builtin "isinstance") (rIsi K) := h ▸ call_isi
theorem k_in (h : X.K = K) : OpR X (compareOp .In) (rIn K false) := h ▸ op_in_seq
theorem k_notin (h : X.K = K) : OpR X (compareOp .NotIn) (rIn K true) := h ▸ op_notIn_seq
theorem k_slice (h : X.K = K) : SlR X (rSlL K) := h ▸ sl_list
end
section
variable {K : PySem.W.Frag} {σ : L2.St} {B B' H : Hp} {ta tb te tc : TE} {t : TT} {d0 d1 d : Dt} {b : Bool} {D : Ends} {i : Int}
/-- if c: x = e -/
theorem s_ifR {q : Nat} {v0 : V} (e : Ex B H) (h : EvC t σ B b) (h1 : b = true → EvR te σ B d1) (hx : σ[q]? = some (some v0)) (r0 : R B v0 d0) (go : ∀ v B1 H1, New B H B1 H1 → R B1 v (if b = true then d1 else d0) → D.nx (σ.set q (some v)) H1) : tIfS t (tAsg te (gName q)) tNext D σ H :=
  s_if e h (fun hb H1 u => (h1 hb) H1 u.sub _ fun v B2 H2 n rv => by
    refine go v B2 H2 (u.new.trans n) ?_
    rw [if_pos hb]
    exact rv) (fun hb H1 u => by
    have g := go v0 B H1 u.new (by rw [if_neg (by rw [hb]; exact Bool.false_ne_true)]; exact r0)
    rw [set_same hx] at g
    exact g)
/-- x[i], x a tuple whose items are not all told -/
theorem ev_ixRaw {n : Nat} {p : Addr} {vs : List V} {v : V} (h : σ[n]? = some (some (.ref p))) (hb : B p = some (.tup vs)) (hi : atI vs i = some v) (r : R B v d) : EvR (tOp (rIx K) (tVar n) (tC (.int i))) σ B d := fun H1 e Q q =>
  ⟨_, h, .inr (.inl ⟨p, vs, i, v, rfl, rfl, st_of (e _ _ hb), hi, q v B H1 (New.refl e) r⟩)⟩
theorem atI_two {d : Dt} {x : Int} (h0 : 0 ≤ x) (h1 : x < 2) : atI [d, d] x = some d := by
  have : x = 0 ∨ x = 1 := by omega
  rcases this with e | e <;> rw [e] <;> rfl
theorem atI_hd {x : Int} {xs : List Int} : atI ((x :: xs).map V.int) 0 = some (.int x) := by
  have h : ((0 : Int) < ((x :: xs).map V.int).length) := by rw [List.length_map, List.length_cons]; omega
  unfold atI ixN
  first
    | (simp; done)
    | (split <;> simp_all <;> omega)
theorem ixN_0 {α : Type} {x : α} {xs : List α} : ixN (x :: xs).length 0 = some 0 := by
  unfold ixN
  first
    | (simp; done)
    | (split <;> simp_all <;> omega)
end
end U

namespace U
open PySem L2
open Evl (Ex fresh_back sz_of sz_lt sq_of st_of rLenS rListS)
section
variable {K : PySem.W.Frag} {σ : L2.St} {B B' H : Hp} {ta tb te tc : TE} {t : TT} {x y z d d0 d1 d2 d3 d4 : Dt} {ds es : List Dt} {b : Bool} {D : Ends} {i j k l : Nat}
/-- plain values -/
def Dt.fl : Dt → Bool
  | .lst _ | .tup _ => false
  | _ => true
def Dt.v : Dt → V
  | .non => .non | .bl b => .bl b | .int i => .int i | .str s => .str s | _ => .non
theorem R.fl {v : V} (h : R B v d) (f : d.fl = true) : v = d.v ∧ flatV v = true := by
  cases h with
  | lst _ _ => cases f
  | tup _ _ => cases f
  | _ => exact ⟨rfl, rfl⟩
theorem RA.fl : ∀ {vs : List V} {ds : List Dt}, RA B vs ds → ds.all Dt.fl = true → vs = ds.map Dt.v ∧ vs.all flatV = true
  | _, _, .nil, _ => ⟨rfl, rfl⟩
  | _, _, .cons a r, f => by
    rw [List.all_cons, Bool.and_eq_true] at f
    obtain ⟨h1, h2⟩ := R.fl a f.1
    obtain ⟨h3, h4⟩ := RA.fl r f.2
    exact ⟨by rw [List.map_cons, ← h1, ← h3], by rw [List.all_cons, h2, h4]; rfl⟩
theorem rv_in {neg : Bool} (hx : x.fl = true) (it : Items y ds) (hf : ds.all Dt.fl = true) : RV (rIn K neg) x y (.bl (if neg then !inV x.v (ds.map Dt.v) else inV x.v (ds.map Dt.v))) := fun B H1 v w e r1 r2 Q q => by
  obtain ⟨h1, h2⟩ := r1.fl hx
  cases it with
  | lst =>
    obtain ⟨p, vs, rfl, hp, ra⟩ := r2.lst_inv
    obtain ⟨h3, h4⟩ := ra.fl hf
    exact ⟨p, vs, rfl, .inl (sq_of (e _ _ hp)), h2, h4, by rw [h1, h3]; exact q _ B H1 (New.refl e) (.bl _)⟩
  | tup =>
    obtain ⟨p, vs, rfl, hp, ra⟩ := r2.tup_inv
    obtain ⟨h3, h4⟩ := ra.fl hf
    exact ⟨p, vs, rfl, .inr (st_of (e _ _ hp)), h2, h4, by rw [h1, h3]; exact q _ B H1 (New.refl e) (.bl _)⟩
theorem RA.flat : ∀ (n : Nat) {vs : List V} {ds : List Dt}, RA B vs ds → RA B (List.replicate n vs).flatten (List.replicate n ds).flatten
  | 0, _, _, _ => .nil
  | n + 1, _, _, h => by rw [List.replicate_succ, List.replicate_succ, List.flatten_cons, List.flatten_cons]; exact h.append (RA.flat n h)
theorem rv_rep {n : Int} (hn : 0 ≤ n ∧ n ≤ 1000) (hd : ds.length ≤ 10) : RV rRep (.lst ds) (.int n) (.lst (List.replicate n.toNat ds).flatten) := fun B H1 v w e r1 r2 Q q => by
  cases r2
  obtain ⟨p, vs, rfl, hp, ra⟩ := r1.lst_inv
  refine ⟨p, n, vs, rfl, rfl, e _ _ hp, by omega, by omega, ?_, fun l hl => q _ (upd B l _) _ (New.one e hl) (.lst upd_same ((ra.flat n.toNat).mono (Evl.Ex.new (fresh_back e hl))))⟩
  have h1 : vs.length * n.toNat ≤ 10 * 1000 := Nat.mul_le_mul (by rw [ra.len]; exact hd) (by omega)
  rw [sizeLine_eq]
  omega
theorem g_tup4 {v : V} {k' : L2.St → Hp → Prop} (e : Ex B H) (r : R B v (.tup [d1, d2, d3, d4])) (h : ∀ v1 v2 v3 v4, R B v1 d1 → R B v2 d2 → R B v3 d3 → R B v4 d4 → k' ((((σ.set i (some v1)).set j (some v2)).set k (some v3)).set l (some v4)) H) :
    gTup K 4 (gCons (gName i) (gCons (gName j) (gCons (gName k) (gCons (gName l) gNil)))) v σ H k' := by
  obtain ⟨p, vs, rfl, hp, ra⟩ := r.tup_inv
  cases ra with | cons r1 ra =>
  cases ra with | cons r2 ra =>
  cases ra with | cons r3 ra =>
  cases ra with | cons r4 ra =>
  cases ra
  exact ⟨p, _, rfl, st_of (e _ _ hp), rfl, _, _, rfl, _, _, rfl, _, _, rfl, _, _, rfl, rfl, h _ _ _ _ r1 r2 r3 r4⟩
theorem s_asg4 (e : Ex B H) (h : EvR te σ B (.tup [d1, d2, d3, d4])) (go : ∀ v1 v2 v3 v4 B1 H1, New B H B1 H1 → R B1 v1 d1 → R B1 v2 d2 → R B1 v3 d3 → R B1 v4 d4 → D.nx ((((σ.set i (some v1)).set j (some v2)).set k (some v3)).set l (some v4)) H1) :
    tAsg te (gTup K 4 (gCons (gName i) (gCons (gName j) (gCons (gName k) (gCons (gName l) gNil))))) D σ H := h H e _ fun v B1 H1 n rv =>
  g_tup4 (K := K) n.sub rv fun v1 v2 v3 v4 r1 r2 r3 r4 => go v1 v2 v3 v4 B1 H1 n r1 r2 r3 r4
/-- over range(n), a list of one's own -/
theorem el_lcR1 {n : Int} {f : Nat → Dt} {tl : TA} {vs : List Nat} (h : EvRA tl σ B [.int n]) (hz : 0 ≤ n ∧ n < 100000) (hw : ∀ x, wipe ((wipe σ vs).set j (some x)) vs = wipe σ vs)
    (he : ∀ (q : Nat) B1, (q : Int) < n → Ex B B1 → EvR te ((wipe σ vs).set j (some (.int (q : Int)))) B1 (f q)) : EvL (tLc (iRng1 tl) (gName j) tYes te vs) σ B ((List.range n.toNat).map f) := fun H0 e0 Q k => h H0 e0 _ fun v B1 H1 nw rv => by
  cases rv with | cons r1 rv =>
  cases r1; cases rv
  refine ⟨n, rfl, by omega, by omega, fun q hq => ?_⟩
  refine lc_range (lo := 0) (n := n.toNat) (LcI B1 H1 q fun i => (((List.range n.toNat).take i).filter fun _ => true).map f) (lcI_start nw.sub hq rfl) (fun i H' hi z => ?_) (fun H' z => ?_)
  · have e0 : (0 : Int) + (i : Int) = (i : Int) := Int.zero_add _
    rw [e0]
    have hq' : (List.range n.toNat)[i]? = some i := by rw [List.getElem?_range hi]
    exact ⟨hw _, lcI_turn z (Nat.lt_of_le_of_lt (outs_len i) (by rw [List.length_range]; omega)) ec_yes (fun _ => he i B1 (by omega) nw.ext) (outs_step hq')⟩
  · obtain ⟨B', acc, n', o, ra'⟩ := z
    have ra' : RA B' acc ((((List.range n.toNat).take n.toNat).filter fun _ => true).map f) := ra'
    rw [List.take_of_length_le (by rw [List.length_range]; omega), List.filter_eq_self.mpr (fun _ _ => rfl)] at ra'
    exact k q acc B' H' (nw.trans n') ⟨fresh_back nw.heap o.h0, o.b, o.h⟩ ra'
/-- for j in tl, the list of the data enc q, by what holds between the turns -/
theorem q_each {α : Type} {l : List α} {enc : α → Dt} {g : TG} {tu : TS} (e : Ex B H) (h : EvR te σ B d) (it : Items d (l.map enc)) (Pv : Nat → L2.St → Hp → Hp → Prop) (h0 : ∀ B1 H1, New B H B1 H1 → Pv 0 σ B1 H1)
    (hs : ∀ B1 i q v σ' B' H', l[i]? = some q → R B1 v (enc q) → Ex B1 B' → Ex B' H' → Pv i σ' B' H' → g v σ' H' fun σ2 H2 => tu { D with nx := fun σ3 H3 => ∃ B3, Ex B1 B3 ∧ Ex B3 H3 ∧ Pv (i + 1) σ3 B3 H3, ct := fun σ3 H3 => ∃ B3, Ex B1 B3 ∧ Ex B3 H3 ∧ Pv (i + 1) σ3 B3 H3, bk := D.nx } σ2 H2)
    (hd : ∀ σ' B' H', Ex B' H' → Pv l.length σ' B' H' → D.nx σ' H') : tFor (iSeq K te) g tu D σ H :=
  q_for e h it (fun B1 H1 i σ' H' => ∃ B', Ex B1 B' ∧ Ex B' H' ∧ Pv i σ' B' H') (fun B1 H1 n => ⟨B1, Evl.Ex.refl _, n.sub, h0 B1 H1 n⟩) (fun B1 H1 i σ' H' z => by
    obtain ⟨B', a, b, _⟩ := z
    exact a.trans b) (fun B1 H1 i dd v σ' H' n hi rv z => by
    obtain ⟨B', a, b, c⟩ := z
    rw [List.getElem?_map] at hi
    cases hq : l[i]? with
    | none => rw [hq] at hi; cases hi
    | some q =>
      rw [hq] at hi
      cases hi
      exact hs B1 i q v σ' B' H' hq rv a b c) (fun B1 H1 σ' H' n z => by
    obtain ⟨B', a, b, c⟩ := z
    rw [List.length_map] at c
    exact hd σ' B' H' b c)
end
def axS (b : Bool) : Str := if b = true then "x" else "y"
theorem ixN_nat {n m : Nat} (h : m < n) : ixN n (m : Int) = some m := by
  unfold ixN
  simp only [Int.natCast_nonneg]
  first
    | (rw [if_pos (by omega)]; simp; done)
    | (simp [h]; done)
    | (split <;> simp_all <;> omega)
theorem atI_nat' {α : Type} {xs : List α} {m : Nat} {v : α} (h : xs[m]? = some v) : atI xs (m : Int) = some v := by
  unfold atI
  rw [ixN_nat (List.getElem?_eq_some_iff.mp h).1]
  exact h
theorem atI_last' {α : Type} {xs : List α} {v : α} (h : xs[xs.length - 1]? = some v) : atI xs (-1) = some v := by
  have hl := (List.getElem?_eq_some_iff.mp h).1
  have e : ixN xs.length (-1) = some (xs.length - 1) := by
    unfold ixN
    first
      | (simp; omega; done)
      | (split <;> simp_all <;> omega)
  unfold atI
  rw [e]
  exact h
section
variable {K : PySem.W.Frag} {σ : L2.St} {B B' H : Hp} {te : TE} {D : Ends}
/-- o[i] = e, o a list of one's own that e may read, e an int -/
theorem s_putI {H0 : Hp} {p : Addr} {vs : List V} {n q k : Nat} {z : Int} (e : Ex B' H) (h : EvR te σ B' (.int z)) (o : Own H0 B H p vs) (ho : σ[n]? = some (some (.ref p))) (hi : σ[q]? = some (some (.int (k : Int)))) (hk : k < vs.length)
    (go : ∀ H1, Ex H H1 → D.nx σ (upd H1 p (.lst (vs.set k (.int z))))) : tAsg te (gSub (tVar n) (tVar q) rSetL) D σ H := h H e _ fun v B1 H1 n1 rv => by
  cases rv
  exact ⟨_, ho, _, hi, p, vs, k, k, rfl, rfl, n1.heap _ _ o.h, ixN_nat hk, go H1 n1.heap⟩
end
theorem RA.set {B : Hp} {v : V} {d : Dt} (r : R B v d) : ∀ {vs : List V} {ds : List Dt} (i : Nat), RA B vs ds → RA B (vs.set i v) (ds.set i d)
  | _, _, _, .nil => .nil
  | _, _, 0, .cons _ t => .cons r t
  | _, _, i + 1, .cons q t => .cons q (RA.set r i t)
/-- if c: .. without an else, a word between it and what follows -/
theorem s_if_cut {B H : Hp} {σ : L2.St} {t : TT} {tu : TS} {D : Ends} {b : Bool} (M : L2.St → Hp → Prop) (e : Ex B H) (h : EvC t σ B b) (hM : ∀ σ3 H3, M σ3 H3 → D.nx σ3 H3) (h1 : b = true → ∀ H1, Up B H H1 → ∀ D' : Ends, (∀ σ3 H3, M σ3 H3 → D'.nx σ3 H3) → tu D' σ H1)
    (h2 : b = false → ∀ H1, Up B H H1 → M σ H1) : tIfS t tu tNext D σ H := s_if e h (fun hb H1 u => h1 hb H1 u D hM) (fun hb H1 u => hM σ H1 (h2 hb H1 u))
theorem eqv_nilG (ds : List Dt) : PyData.eqv (Dt.lst ds).py (Dt.lst []).py = ds.isEmpty := by
  cases ds <;> simp [Dt.py, pyAll, PyData.eqv, PyData.eqvAll]
/-! ### (s, s', ..).index(e), the tuple written there -/
def tTupIdx (t : TA) (te : TE) : TE := fun σ H Q => t σ H fun xs H1 => xs.length ≤ sizeLine ∧ ∀ p, H1 p = none → tCons te tNil σ (upd H1 p (.tup xs)) fun vs H2 => ∃ (ys : List Str) (z : Str) (j : Nat),
  xs = ys.map V.str ∧ vs = [.str z] ∧ H2 p = some (.tup xs) ∧ ys[j]? = some z ∧ (∀ m, m < j → ys[m]? ≠ some z) ∧ Q (.int (j : Nat)) H2
open PySem.Spec PyProof.Rows in
theorem pe_tupIdx {X : Cx} {es : List Expr} {e : Expr} {x1} {p1 apos cpos : Pos} {t : TA} {te : TE} (h : PA X es t) (he : PE X e te)
    (base : attributeBase (.Tuple es x1 p1) "index" X.env (eval (.Tuple es x1 p1) X.env) = eval (.Tuple es x1 p1) X.env := by rfl)
    (few : ((backTo cpos (starEach [e] X.env)).all (fun x => !x.1) && (backToKw cpos (keywordEach [] X.env)).all (fun x => x.1.isSome) && decide ([e].length + ([] : List Keyword).length + (if ([] : List Keyword).isEmpty then 0 else 1) < 30)) = true := by rfl)
    (line : (apos.endLine == cpos.line) = true := by rfl) (one : starEach [e] X.env = (false, eval e X.env) :: starEach [] X.env := by rfl) :
    PE X (.Call (.Attribute (.Tuple es x1 p1) "index" apos) [e] [] cpos) (tTupIdx t te) := by
  constructor
  intro pins s σ H Q I hq
  refine wpAny_Call_method_late base few line rfl (wpAny_Tuple_spliced (thn (h.run p1 pins s σ H _ I hq) ?_))
  rintro us s1 ⟨xs, H1, I1, r, z, q⟩
  refine ⟨by rw [← r.length]; exact z, ?_⟩
  have hf : H1 s1.heap.objs.size = none := I1.hok.fresh (Nat.le_refl _)
  have got := Heap.get?_push_size s1.heap (o := { cls := .type "tuple", data := .seq us.toArray }) rfl
  have I2 : Inv X pins σ (upd H1 s1.heap.objs.size (.tup xs)) { s1 with heap := s1.heap.push { cls := .type "tuple", data := .seq us.toArray } } :=
    I1.laid (t' := s1.toks) (fun b u e => Heap.get?_push_of_some _ e) (Nat.le_refl _) ⟨z, us, r, ⟨_, got, rfl, _, rfl⟩⟩
  refine ⟨"tuple", "tuple.index", PySem.F.plainAttrs_tuple, PySem.F.slot_tuple_index, PySem.F.type_tuple_index, ⟨_, got, rfl⟩, fun a ea => by cases ea; exact ⟨_, got, rfl⟩, ?_⟩
  have args := (pa_cons he pa_nil one).run cpos pins _ σ _ _ I2 (q _ hf)
  rw [one] at args ⊢
  refine Calls.callWith_builtin (by rfl) (Calls.evalArgs_plain (thn args ?_))
  rintro ws s2 ⟨vs, H2, I3, r2, ys, zz, j, e1, e2, e3, e4, e5, q2⟩
  rw [e2] at r2
  exact mt_tup_index pins s2 σ H2 (.ref s1.heap.objs.size) [.str zz] _ ws Q I3 rfl r2 ⟨_, ys, zz, j, rfl, rfl, by rw [← e1]; exact SqT.of e3, e4, e5, q2⟩
theorem ev_idx {σ : L2.St} {B : Hp} {te : TE} {t : TA} {b : Bool} (h : EvRA t σ B [.str "x", .str "y"]) (he : EvR te σ B (.str (axS b))) : EvR (tTupIdx t te) σ B (.int (if b = true then 0 else 1)) := fun H1 e Q q =>
  h H1 e _ fun vs B2 H2 n ra => by
    refine ⟨by rw [ra.len]; show 2 ≤ sizeLine; decide, fun p hp => ?_⟩
    have e2 : Ex B2 (upd H2 p (.tup vs)) := n.sub.trans (Evl.Ex.new hp)
    refine (he.mono n.ext) _ e2 _ fun v B3 H3 n3 rv => ?_
    obtain ⟨h1, _⟩ := ra.fl rfl
    obtain ⟨h2, _⟩ := rv.fl rfl
    have hx : (("x" : Str) = "y") → False := by decide +kernel
    have n4 : New B H1 B3 H3 := n.trans ((New.grow e2 (Evl.Ex.new hp) n.sub).trans n3)
    cases b with
    | true => exact ⟨["x", "y"], "x", 0, h1, by rw [h2]; rfl, n3.heap _ _ upd_same, rfl, fun m hm => absurd hm (Nat.not_lt_zero _), q _ B3 H3 n4 (.int _)⟩
    | false => exact ⟨["x", "y"], "y", 1, h1, by rw [h2]; rfl, n3.heap _ _ upd_same, rfl, fun m hm z => by
        have : m = 0 := by omega
        subst this
        exact hx (Option.some.inj z), q _ B3 H3 n4 (.int _)⟩
/-! ### facts -/
structure Fa where
  ax : Bool
  i : Int
  j : Int
  l : Int
abbrev eFa (f : Fa) : Dt := .tup [.str (axS f.ax), .int f.i, .int f.j, .int f.l]
abbrev eFas (fs : List Fa) : Dt := .lst (fs.map eFa)
def Fa.n (f : Fa) (a b : Int) : Int := if f.ax = true then a else b
def FaOk (a b : Int) (f : Fa) : Prop := 0 ≤ f.i ∧ f.i < f.n a b ∧ 0 ≤ f.j ∧ f.j < f.n a b ∧ -6 ≤ f.l ∧ f.l ≤ 6
theorem fit_axS (b : Bool) : (Dt.str (axS b)).fit = true ∧ (Dt.str (axS b)).wt = 2 := by cases b <;> decide +kernel
theorem fitAll_fas {a b : Int} (ha : a ≤ 100) (hb : b ≤ 100) : ∀ (fs : List Fa), (∀ f ∈ fs, FaOk a b f) → fitAll (fs.map eFa) = true ∧ wtAll (fs.map eFa) = 6 * fs.length ∧ depAll (fs.map eFa) ≤ 1
  | [], _ => ⟨by simp [fitAll], by simp [wtAll], by simp [depAll]⟩
  | f :: fs, h => by
    obtain ⟨h1, h2, h3⟩ := fitAll_fas ha hb fs fun g hg => h g (List.mem_cons_of_mem _ hg)
    obtain ⟨i0, i1, j0, j1, l0, l1⟩ := h f List.mem_cons_self
    have hn : f.n a b ≤ 100 := by unfold Fa.n; split <;> assumption
    obtain ⟨q1, q2⟩ := fit_axS f.ax
    refine ⟨?_, ?_, ?_⟩
    · rw [List.map_cons, fitAll, h1, Dt.fit, fitAll, fitAll, fitAll, fitAll, fitAll, q1, Dt.fit, Dt.fit, Dt.fit, decide_eq_true (by omega), decide_eq_true (by omega), decide_eq_true (by omega)]; rfl
    · rw [List.map_cons, wtAll, h2, Dt.wt, wtAll, wtAll, wtAll, wtAll, wtAll, q2, Dt.wt, Dt.wt, Dt.wt, List.length_cons]; omega
    · rw [List.map_cons, depAll, Dt.dep, depAll, depAll, depAll, depAll, depAll, Dt.dep, Dt.dep, Dt.dep, Dt.dep]; omega
theorem canLay_fas : ∀ (fs : List Fa), PyData.canLayAll0 (pyAll (fs.map eFa)) = true
  | [] => by simp [pyAll, PyData.canLayAll0]
  | f :: fs => by
    have h : (Dt.str (axS f.ax)).py.canLay0 = true := by cases f.ax <;> decide +kernel
    rw [List.map_cons, pyAll, PyData.canLayAll0, canLay_fas fs, Dt.py, PyData.canLay0, pyAll, pyAll, pyAll, pyAll, pyAll, PyData.canLayAll0, h, Dt.py, Dt.py, Dt.py]
    rfl
theorem depAll_fas : ∀ (fs : List Fa), depAll (fs.map eFa) ≤ 1
  | [] => by simp [depAll]
  | f :: fs => by
    have := depAll_fas fs
    rw [List.map_cons, depAll, Dt.dep, depAll, depAll, depAll, depAll, depAll, Dt.dep, Dt.dep, Dt.dep, Dt.dep]; omega
theorem shaped_fas {fs : List Fa} : SeqAt.shaped (eFas fs).py = true := by
  have := depAll_fas fs
  unfold SeqAt.shaped
  rw [dep_py, Dt.dep, Dt.py, PyData.canLay0, canLay_fas]
  simp only [Bool.true_and, decide_eq_true_eq]
  omega
/-- facts beside settings, in one list -/
theorem fit_pair {fs : List Fa} {p q : List Int} {a b : Int} (ha : a ≤ 100) (hb : b ≤ 100) (hf : ∀ f ∈ fs, FaOk a b f) (lf : fs.length ≤ 1000) (hp : ∀ n ∈ p, n.natAbs < 10 ^ 60) (hq : ∀ n ∈ q, n.natAbs < 10 ^ 60) (lp : p.length ≤ 1000) (lq : q.length ≤ 1000) : Fit (.lst [eFas fs, eSet p q]) := by
  obtain ⟨h1, h2, h3⟩ := fitAll_fas ha hb fs hf
  have s := fit_eSet hp hq lp lq
  have s2 := s.wt
  have s3 : (eSet p q).dep = 2 := by rw [Dt.dep, depAll, depAll, depAll, Dt.dep, Dt.dep, depAll_ints, depAll_ints]; rfl
  have s4 : (eSet p q).wt = p.length + q.length + 3 := by rw [Dt.wt, wtAll, wtAll, wtAll, Dt.wt, Dt.wt, wtAll_ints, wtAll_ints]; omega
  refine ⟨?_, ?_, ?_⟩
  · rw [Dt.fit, fitAll, fitAll, fitAll, s.fit, Dt.fit, h1]; rfl
  · rw [Dt.wt, wtAll, wtAll, wtAll, s4, Dt.wt, h2]; omega
  · rw [Dt.dep, depAll, depAll, depAll, s3, Dt.dep]; omega
end U

namespace U
open PySem PySem.Spec PyProof.Rows L2
section
variable {P : Program} {w : World} {A : Around} {E : Value → Shared → Prop} {s : Shared}
abbrev set0 (w : World) : Obj := { cls := .type "set", dict := none, data := .set #[] 0 (.fresh 0 0 (!w.params.followText "set-order")) }
/-- what comes of it -/
def Made (w : World) (s : Shared) (ns : List Int) (s2 : Shared) : Prop := ∃ h' tk c, s2 = { s with heap := h', toks := tk } ∧ SetR w h' s.heap.objs.size (fun j => decide (j ∈ ns)) c ∧ ∀ b o, s.heap.get? b = some o → h'.get? b = some o
/-- its members put in -/
theorem fill_list {l : Addr} {items : Array Value} {ns : List Int} (hh : A.handled = none) (hl : s.heap.IsList l items) (hit : IntsAre items.toList ns) (hb : ns.length + 1 < scanBound) :
    codeAny (model P w) A (.builtin "set.update.loop" ⟨[.ref s.heap.objs.size, .ref (s.heap.push (set0 w)).objs.size], []⟩) (wants (fun r s2 => r = .none ∧ Made w s ns s2) E)
      { s with heap := (s.heap.push (set0 w)).push { cls := .type "list_iterator", data := .fields #[.ref l, .int 0 0] } } := by
  have hisz : items.size = ns.length := by
    have q := IntsAre.length hit
    rw [Array.length_toList] at q
    exact q
  have hlS : l < s.heap.objs.size := by
    obtain ⟨o, ho, _⟩ := hl
    exact Heap.lt_size ho
  have hS : (s.heap.push (set0 w)).get? s.heap.objs.size = some (set0 w) := Heap.get?_push_size _ rfl
  have hz1 : (s.heap.push (set0 w)).objs.size = s.heap.objs.size + 1 := Heap.size_push ..
  have hl1 : (s.heap.push (set0 w)).IsList l items := hl.push _
  have hneI : l ≠ (s.heap.push (set0 w)).objs.size := by rw [hz1]; exact Nat.ne_of_lt (Nat.lt_succ_of_lt hlS)
  have hSf : s.heap.objs.size ∉ [(s.heap.push (set0 w)).objs.size, l] := by
    rw [hz1]; simp only [List.mem_cons, List.mem_singleton, List.not_mem_nil, or_false, not_or]
    exact ⟨Nat.ne_of_lt (Nat.lt_succ_self _), Nat.ne_of_gt hlS⟩
  have hval : ∀ (i : Nat) (v : Value), items[i]? = some v → ∃ k t, ns[i]? = some k ∧ v = .int k t := fun i v hv => by
    have hi : i < ns.length := by rw [← hisz]; exact (Array.getElem?_eq_some_iff.mp hv).1
    obtain ⟨t, e⟩ := IntsAre.int_at hit i v (by rw [Array.getElem?_toList]; exact hv)
    refine ⟨ns[i], t, List.getElem?_eq_getElem hi, ?_⟩
    rw [e, List.getD_eq_getElem?_getD, List.getElem?_eq_getElem hi] <;> rfl
  refine set_update_ints ((Walks.list (A := A.in1) (by simp [hh]) _ l hneI items).toS) s.heap.objs.size hSf ns hisz hb hval (items.size - 0) 0 _ (by omega) (Nat.zero_le _)
    ⟨⟨_, Heap.get?_push_size _ rfl, rfl, rfl⟩, (hl1.push _)⟩ ⟨0, Nat.le_refl 0, setR_new_at (Heap.get?_push_of_some _ hS)⟩ fun s' c' hm hc' hS' => ?_
  obtain ⟨h', g2, d', tk', os'⟩ := s'
  have eg : g2 = s.gens := hm.gens
  have ed : d' = s.drawn := hm.drawn
  have eo : os' = s.os := hm.os
  subst eg; subst ed; subst eo
  refine ⟨rfl, h', tk', c', rfl, hS', fun b o e => ?_⟩
  have hb0 : b < s.heap.objs.size := Heap.lt_size e
  exact hm.heap b o (by rw [hz1]; simp only [List.mem_cons, List.mem_singleton, List.not_mem_nil, or_false, not_or]; exact ⟨Nat.ne_of_lt hb0, Nat.ne_of_lt (Nat.lt_succ_of_lt hb0)⟩) (Heap.get?_push_of_some _ (Heap.get?_push_of_some _ e))
set_option maxHeartbeats 3200000 in
theorem call_set_listI {l : Addr} {items : Array Value} (ns : List Int) {Q : Value → Shared → Prop} (hh : A.handled = none) (hl : s.heap.IsList l items) (hit : IntsAre items.toList ns) (hb : ns.length + 1 < scanBound)
    (h : ∀ s2, Made w s ns s2 → Q (.ref s.heap.objs.size) s2) : wpAny (model P w) A (call (.type "set") [.ref l]) Q E s := by
  obtain ⟨c, tl, hmro⟩ := F.called_set.mro
  have hmade := F.called_set.made
  have hsub := F.called_set.sub
  refine wpAny_call (codeAny_of_tree ?_)
  refine wpAny_pure ⟨Code.quiet_builtin _ (by decide +kernel), codeAny_builtin F.entry_type_call ?_⟩
  rw [Around.under_plain (weight_type_call_type "set" [.ref l] []) rfl]
  have h1 := F.called_set.notType
  have h2 := F.called_set.canCreate
  have hct := F.typeCall_set_1 (.ref l)
  repeat (any_goals (first | assumption | wp_step))
  refine codeAny_mono (code_set_led1 (.ref l) (E := E) (Q₁ := fun obj s₁ => obj = .ref s.heap.objs.size ∧ s₁ = { s with heap := s.heap.push (set0 w) }) ⟨rfl, rfl⟩) fun r s₁ hr => ?_
  cases r with
  | error e => exact hr
  | ok fl =>
    cases fl with
    | ret obj =>
      obtain ⟨rfl, rfl⟩ := hr
      have hT : Shared.TypeIs { s with heap := s.heap.push (set0 w) } (.ref s.heap.objs.size) "set" := ⟨_, Heap.get?_push_size _ rfl, rfl⟩
      have hli := F.called_set.init.lookup
      have hbi := F.called_set.init.bind (.ref s.heap.objs.size)
      repeat (any_goals (first | assumption | wp_step))
      refine codeAny_mono (codeAny_call_builtin (R := wants (fun r s₂ => r = .none ∧ Made w s ns s₂) E) F.called_set.init.plain F.entry_set_init (check_set_init_1 hT ?_)) fun r₂ s₂ hr₂ => ?_
      · have hl0 := hl
        obtain ⟨ol, hol, hcl, nl, hdl⟩ := hl
        obtain ⟨ocls, odict, odata, oslots⟩ := ol
        simp only at hcl hdl
        subst hcl; subst hdl
        have hol' := Heap.get?_push_of_some (set0 w) hol
        have hsls := F.sub_list_set
        have hslf := F.sub_list_frozenset
        have hne : (Value.type "list" == Value.type "dict") = false := by decide
        unfold Builtin.«set.__init__» noKeywords Builtin.Frozenset.updateFrom
        generalize hPI : pyIter = PI
        wp_walk
        subst hPI
        refine wpAny_pyIter_list (hl0.push _) ?_
        refine wpAny_bind (wpAny_runValue ?_)
        refine codeAny_mono (fill_list (E := E) (by simp [hh]) hl0 hit hb) fun r3 s3 hr3 => ?_
        cases r3 with
        | error e => exact hr3
        | ok fl3 =>
          cases fl3 with
          | ret r =>
            obtain ⟨rfl, m3⟩ := hr3
            show wpAny _ _ _ _ _ _
            refine wpAny_pure ?_
            show wpAny _ _ (ret Value.none) _ _ _
            exact wpAny_pure ⟨rfl, m3⟩
          | _ => exact hr3.elim
      · cases r₂ with
        | error e => exact hr₂
        | ok fl₂ =>
          cases fl₂ with
          | ret r =>
            obtain ⟨rfl, m2⟩ := hr₂
            repeat (any_goals (first | assumption | wp_step))
            exact h _ m2
          | _ => exact hr₂.elim
    | _ => exact hr.elim
end
end U

namespace U
/-- f is what closing for w makes of the values ns -/
def IsClo (w : Int) (ns : List Int) (f : Int → Int) : Prop :=
  (∀ m ∈ ns, (∀ x ∈ ns, m ≤ x) → f m = 0) ∧ ∀ a ∈ ns, ∀ b ∈ ns, a < b → (∀ c ∈ ns, c ≤ a ∨ b ≤ c) → f b = f a + min (b - a) (w + 1)
/-- the next lower one -/
def pre (ns : List Int) (v : Int) : Option Int := if ns.filter (fun x => decide (x < v)) = [] then none else some (-minL ((ns.filter fun x => decide (x < v)).map (- ·)))
theorem pre_none {ns : List Int} {v : Int} (h : pre ns v = none) : ∀ x ∈ ns, v ≤ x := fun x hx => by
  unfold pre at h
  split at h
  next e =>
    have := List.filter_eq_nil_iff.mp e x hx
    simp at this
    exact this
  · cases h
theorem pre_some {ns : List Int} {v a : Int} (h : pre ns v = some a) : a ∈ ns ∧ a < v ∧ ∀ c ∈ ns, c ≤ a ∨ v ≤ c := by
  unfold pre at h
  split at h
  · cases h
  next e =>
    cases h
    have hn : ((ns.filter fun x => decide (x < v)).map (- ·)) ≠ [] := fun z => e (List.map_eq_nil_iff.mp z)
    obtain ⟨y, hy, ey⟩ := List.mem_map.mp (minL_mem hn)
    have hy2 := List.mem_filter.mp hy
    have e2 : -minL ((ns.filter fun x => decide (x < v)).map (- ·)) = y := by rw [← ey]; omega
    rw [e2]
    refine ⟨hy2.1, by simpa using hy2.2, fun c hc => ?_⟩
    by_cases hv : c < v
    · left
      have := minL_le (List.mem_map_of_mem (f := (- ·)) (List.mem_filter.mpr ⟨hc, by simpa using hv⟩) : -c ∈ ((ns.filter fun x => decide (x < v)).map (- ·)))
      omega
    · right; omega
theorem pre_is {ns : List Int} {a v : Int} (ha : a ∈ ns) (h : a < v) (k : ∀ c ∈ ns, c ≤ a ∨ v ≤ c) : pre ns v = some a := by
  cases e : pre ns v with
  | none => have := pre_none e a ha; omega
  | some b =>
    obtain ⟨h1, h2, h3⟩ := pre_some e
    have := k b h1
    have := h3 a ha
    rw [show b = a by omega]
def cl (w : Int) (ns : List Int) : Nat → Int → Int
  | 0, _ => 0
  | n + 1, v => match pre ns v with
    | none => 0
    | some a => cl w ns n a + min (v - a) (w + 1)
theorem cl_fuel {w : Int} {ns : List Int} : ∀ (n m : Nat) (v : Int), v ∈ ns → (v - minL ns).toNat ≤ n → (v - minL ns).toNat ≤ m → cl w ns n v = cl w ns m v := by
  have hz : ∀ (m : Nat) (v : Int), v ∈ ns → (v - minL ns).toNat = 0 → cl w ns m v = 0 := fun m v hv h => by
    cases m with
    | zero => rfl
    | succ m =>
      unfold cl
      cases e : pre ns v with
      | none => rfl
      | some a =>
        obtain ⟨h1, h2, _⟩ := pre_some e
        have := minL_le h1
        omega
  intro n
  induction n with
  | zero => intro m v hv h1 h2; rw [hz 0 v hv (by omega), hz m v hv (by omega)]
  | succ n ih =>
    intro m v hv h1 h2
    cases m with
    | zero => rw [hz 0 v hv (by omega), hz _ v hv (by omega)]
    | succ m =>
      unfold cl
      cases e : pre ns v with
      | none => rfl
      | some a =>
        obtain ⟨g1, g2, _⟩ := pre_some e
        have := minL_le g1
        show cl w ns n a + _ = cl w ns m a + _
        rw [ih m a g1 (by omega) (by omega)]
def clo (w : Int) (ns : List Int) (v : Int) : Int := cl w ns (v - minL ns).toNat v
theorem clo_is (w : Int) (ns : List Int) : IsClo w ns (clo w ns) := by
  constructor
  · intro m hm h
    unfold clo
    have : (m - minL ns).toNat = 0 := by
      have := h _ (minL_mem (List.ne_nil_of_mem hm))
      omega
    rw [this]; rfl
  · intro a ha b hb h k
    have h1 := minL_le ha
    obtain ⟨n, hn⟩ : ∃ n, (b - minL ns).toNat = n + 1 := ⟨(b - minL ns).toNat - 1, by omega⟩
    have e : cl w ns (n + 1) b = cl w ns n a + min (b - a) (w + 1) := by
      show (match pre ns b with | none => (0 : Int) | some a => cl w ns n a + min (b - a) (w + 1)) = _
      rw [pre_is ha h k]
    show cl w ns _ b = cl w ns _ a + _
    rw [hn, e, cl_fuel n _ a ha (by omega) (Nat.le_refl _)]
theorem clo_uniq {w : Int} {ns : List Int} {f g : Int → Int} (hf : IsClo w ns f) (hg : IsClo w ns g) : ∀ (n : Nat) (v : Int), v ∈ ns → (v - minL ns).toNat ≤ n → f v = g v := by
  intro n
  induction n with
  | zero =>
    intro v hv h
    have k : ∀ x ∈ ns, v ≤ x := fun x hx => by have := minL_le hx; omega
    rw [hf.1 v hv k, hg.1 v hv k]
  | succ n ih =>
    intro v hv h
    cases e : pre ns v with
    | none => rw [hf.1 v hv (pre_none e), hg.1 v hv (pre_none e)]
    | some a =>
      obtain ⟨g1, g2, g3⟩ := pre_some e
      have := minL_le g1
      rw [hf.2 a g1 v hv g2 g3, hg.2 a g1 v hv g2 g3, ih a g1 (by omega)]
theorem clo_mono {w : Int} {ns : List Int} {f : Int → Int} (hf : IsClo w ns f) (hw : 0 ≤ w) : ∀ (n : Nat) (a b : Int), a ∈ ns → b ∈ ns → a < b → (b - minL ns).toNat ≤ n → f a < f b := by
  intro n
  induction n with
  | zero => intro a b ha hb h k; have := minL_le ha; omega
  | succ n ih =>
    intro a b ha hb h k
    cases e : pre ns b with
    | none => have := pre_none e a ha; omega
    | some c =>
      obtain ⟨g1, g2, g3⟩ := pre_some e
      have := minL_le g1
      have e1 := hf.2 c g1 b hb g2 g3
      have q := g3 a ha
      by_cases z : a = c
      · subst z; omega
      · have := ih a c ha g1 (by omega) (by omega)
        omega
theorem clo_range {w : Int} {ns : List Int} {f : Int → Int} (hf : IsClo w ns f) (hw : 0 ≤ w) : ∀ (n : Nat) (v : Int), v ∈ ns → (v - minL ns).toNat ≤ n → 0 ≤ f v ∧ f v ≤ v - minL ns := by
  intro n
  induction n with
  | zero =>
    intro v hv h
    have k : ∀ x ∈ ns, v ≤ x := fun x hx => by have := minL_le hx; omega
    have := minL_le hv
    rw [hf.1 v hv k]
    omega
  | succ n ih =>
    intro v hv h
    have := minL_le hv
    cases e : pre ns v with
    | none => rw [hf.1 v hv (pre_none e)]; omega
    | some a =>
      obtain ⟨g1, g2, g3⟩ := pre_some e
      have := minL_le g1
      have := ih a g1 (by omega)
      rw [hf.2 a g1 v hv g2 g3]
      omega
def cloR (w : Int) (ns : List Int) : List Int := ns.map (clo w ns)
theorem cloR_of {w : Int} {ns : List Int} {f : Int → Int} (hf : IsClo w ns f) : ns.map f = cloR w ns := List.map_congr_left fun v hv => clo_uniq hf (clo_is w ns) _ v hv (Nat.le_refl _)
theorem cloR_len (w : Int) (ns : List Int) : (cloR w ns).length = ns.length := by unfold cloR; rw [List.length_map]
theorem cloR_cloR {w w' : Int} {ns : List Int} (hw : 0 ≤ w) (h : w ≤ w') : cloR w' (cloR w ns) = cloR w ns := by
  have hf := clo_is w ns
  have mono : ∀ a b, a ∈ ns → b ∈ ns → clo w ns a < clo w ns b → a < b := fun a b ha hb q => by
    rcases Int.lt_trichotomy a b with z | z | z
    · exact z
    · subst z; omega
    · have := clo_mono hf hw _ b a hb ha z (Nat.le_refl _); omega
  have up : ∀ a b, a ∈ ns → b ∈ ns → a ≤ b → clo w ns a ≤ clo w ns b := fun a b ha hb q => by
    by_cases z : a = b
    · subst z; exact Int.le_refl _
    · have := clo_mono hf hw _ a b ha hb (by omega) (Nat.le_refl _); omega
  have k : IsClo w' (cloR w ns) id := by
    constructor
    · intro m hm h
      obtain ⟨v, hv, rfl⟩ := List.mem_map.mp hm
      have h1 := clo_range hf hw _ v hv (Nat.le_refl _)
      have h2 := h _ (List.mem_map_of_mem (minL_mem (List.ne_nil_of_mem hv)))
      have h3 : clo w ns (minL ns) = 0 := hf.1 _ (minL_mem (List.ne_nil_of_mem hv)) fun x hx => minL_le hx
      show clo w ns v = 0
      omega
    · intro a' ha b' hb hab hc
      obtain ⟨a, ha0, rfl⟩ := List.mem_map.mp ha
      have ha := ha0
      obtain ⟨b, hb0, rfl⟩ := List.mem_map.mp hb
      have hb := hb0
      have hl := mono a b ha hb hab
      have e := hf.2 a ha b hb hl fun c hc' => by
        rcases hc _ (List.mem_map_of_mem hc') with z | z
        · left
          by_cases q : c ≤ a
          · exact q
          · have := clo_mono hf hw _ a c ha hc' (by omega) (Nat.le_refl _); omega
        · right
          by_cases q : b ≤ c
          · exact q
          · have := clo_mono hf hw _ c b hc' hb (by omega) (Nat.le_refl _); omega
      show clo w ns b = clo w ns a + min (clo w ns b - clo w ns a) (w' + 1)
      omega
  rw [← cloR_of k, List.map_id]
theorem cloR_shift {w : Int} {ns : List Int} {k : Int} : cloR w (ns.map (· + k)) = cloR w ns := by
  have hf := clo_is w ns
  have q : IsClo w (ns.map (· + k)) (fun v => clo w ns (v - k)) := by
    constructor
    · intro m hm h
      obtain ⟨v, hv, rfl⟩ := List.mem_map.mp hm
      show clo w ns (v + k - k) = 0
      rw [Int.add_sub_cancel]
      exact hf.1 v hv fun x hx => by have := h _ (List.mem_map_of_mem hx); omega
    · intro a' ha b' hb hab hc
      obtain ⟨a, ha0, rfl⟩ := List.mem_map.mp ha
      have ha := ha0
      obtain ⟨b, hb0, rfl⟩ := List.mem_map.mp hb
      have hb := hb0
      show clo w ns (b + k - k) = clo w ns (a + k - k) + min (b + k - (a + k)) (w + 1)
      rw [Int.add_sub_cancel, Int.add_sub_cancel, hf.2 a ha b hb (by omega) fun c hc' => by have := hc _ (List.mem_map_of_mem hc'); omega]
      congr 2
      omega
  rw [← cloR_of q, List.map_map]
  exact List.map_congr_left fun v _ => by show clo w ns (v + k - k) = _; rw [Int.add_sub_cancel]
/-- the next one of an ascending list of the values -/
theorem clo_next {w : Int} {ns o : List Int} (hw : 0 ≤ w) (hm : ∀ x, x ∈ o ↔ x ∈ ns) (hs : o.Pairwise (· ≤ ·)) {i : Nat} {b c : Int} (hb : o[i]? = some b) (hc : o[i + 1]? = some c) : clo w ns c = clo w ns b + min (c - b) (w + 1) := by
  have at_ : ∀ {j k : Nat} {x y : Int}, o[j]? = some x → o[k]? = some y → j ≤ k → x ≤ y := fun {j k x y} hx hy h => by
    obtain ⟨h1, rfl⟩ := List.getElem?_eq_some_iff.mp hx
    obtain ⟨h2, rfl⟩ := List.getElem?_eq_some_iff.mp hy
    rcases Nat.lt_or_eq_of_le h with z | z
    · exact List.pairwise_iff_getElem.mp hs j k h1 h2 z
    · subst z; exact Int.le_refl _
  have hbc := at_ hb hc (by omega)
  have hbm := (hm b).mp (List.mem_of_getElem? hb)
  have hcm := (hm c).mp (List.mem_of_getElem? hc)
  by_cases z : b = c
  · subst z; omega
  · refine (clo_is w ns).2 b hbm c hcm (by omega) fun x hx => ?_
    obtain ⟨j, hj⟩ := List.mem_iff_getElem?.mp ((hm x).mpr hx)
    rcases Nat.lt_or_ge i j with q | q
    · exact .inr (at_ hc hj (by omega))
    · exact .inl (at_ hj hb (by omega))
theorem clo_first {w : Int} {ns o : List Int} (hm : ∀ x, x ∈ o ↔ x ∈ ns) (hs : o.Pairwise (· ≤ ·)) {b : Int} (hb : o[0]? = some b) : clo w ns b = 0 := by
  refine (clo_is w ns).1 b ((hm b).mp (List.mem_of_getElem? hb)) fun x hx => ?_
  obtain ⟨j, hj⟩ := List.mem_iff_getElem?.mp ((hm x).mpr hx)
  obtain ⟨h1, rfl⟩ := List.getElem?_eq_some_iff.mp hb
  obtain ⟨h2, rfl⟩ := List.getElem?_eq_some_iff.mp hj
  rcases Nat.eq_zero_or_pos j with z | z
  · subst z; exact Int.le_refl _
  · exact List.pairwise_iff_getElem.mp hs 0 j h1 h2 z
end U

namespace U
open PySem L2
open Evl (Ex fresh_back sz_of sz_lt sq_of st_of rLenS rListS)
section
variable {K : PySem.W.Frag} {σ : L2.St} {B B' H : Hp} {ta tb te tc tk tv : TE} {t : TT} {x y z d : Dt} {ds es : List Dt} {b : Bool} {D : Ends} {i j k l n : Nat} {ns ms : List Int} {tu : TS} {g : TG}
theorem R.eI_inv {v : V} (h : R B v (eI ns)) : ∃ p, v = .ref p ∧ B p = some (.lst (ns.map V.int)) := by
  obtain ⟨p, vs, rfl, hp, ra⟩ := h.lst_inv
  exact ⟨p, rfl, by rw [← ra.ints_inv]; exact hp⟩
theorem nodup_len : ∀ {ms ns : List Int}, ms.Nodup → (∀ x ∈ ms, x ∈ ns) → ms.length ≤ ns.length
  | [], _, _, _ => Nat.zero_le _
  | m :: ms, ns, nd, h => by
    have hm := h m List.mem_cons_self
    have nd2 := List.nodup_cons.mp nd
    have := nodup_len (ms := ms) (ns := ns.erase m) nd2.2 fun x hx => (List.mem_erase_of_ne (fun z => by subst z; exact nd2.1 hx)).mpr (h x (List.mem_cons_of_mem _ hx))
    have e := List.length_erase_of_mem hm
    have p := List.length_pos_of_mem hm
    rw [List.length_cons]
    omega
/-- q = sorted(e) -/
theorem s_sortedI {q : Nat} (e : Ex B H) (h : EvR ta σ B (eI ns)) (k : ∀ o v B1 H1, o.Perm ns → o.Pairwise (· ≤ ·) → New B H B1 H1 → R B1 v (eI o) → D.nx (σ.set q (some v)) H1) : tAsg (tCB (rSortedI K) (tCons ta tNil)) (gName q) D σ H :=
  h H e _ fun v B1 H1 n rv => by
    obtain ⟨p, rfl, hp⟩ := rv.eI_inv
    exact ⟨p, ns, rfl, sq_of (n.sub _ _ hp), fun o q hm hs hq => k o _ _ _ hm hs (n.trans (New.one n.sub hq)) (.lst upd_same (RA.ints o))⟩
/-- set(e) -/
def rSetL (w : World) (K : PySem.W.Frag) : List V → Hp → VK → Prop := fun vs H Q => ∃ (p : Addr) (ns : List Int), vs = [.ref p] ∧ SqL K H p (ns.map V.int) ∧ ns.length ≤ 1000 ∧
  ∀ (q : Addr) (ms : List Int), ms.Nodup → (∀ k, k ∈ ms ↔ k ∈ ns) → H q = none → Q (.ref q) (upd H q (SetO w q (fun j => decide (j ∈ ns)) ms.length))
theorem cr_setL {X : Cx} (hc : X.calm = true) : CallR X (.type "set") (rSetL X.w X.K) := by
  intro pins s σ H vs us Q I r h
  obtain ⟨p, ns, rfl, hs, hl, q⟩ := h
  obtain ⟨its, rv, pl, hz⟩ := I.list hs
  rw [Vals.ref1 r]
  refine call_set_listI (E := X.xe) ns (I.ok.hd hc) pl.isList (ints_of_vals (by simpa using rv)) (by unfold scanBound; omega) fun s2 m => ?_
  obtain ⟨h', tk, c, rfl, R1, kp⟩ := m
  have hn : H s.heap.objs.size = none := I.hok.fresh (Nat.le_refl _)
  have R2 := R1
  obtain ⟨o, es, ep, t, ho, hex, hdt, g, nd, hm, hb, hf, hc2, hr, hl2⟩ := R2
  have hcl : (es.toList.map keyOf).length = c := by rw [List.length_map, Array.length_toList]; exact hc2
  rw [← hcl] at R1
  exact ⟨.ref s.heap.objs.size, _, I.laid (t' := tk) kp (Nat.le_refl _) (setO_new R1), rfl, q _ _ nd (fun k => by rw [← hm k, decide_eq_true_eq]) hn⟩
theorem k_setL {X : Cx} {w : World} (h : X.K = K) (hw : X.w = w) (hc : X.calm = true) : CallR X (.type "set") (rSetL w K) := h ▸ hw ▸ cr_setL hc
theorem k_sortedSet {X : Cx} {w : World} (hw : X.w = w) (hc : X.calm = true) : CallR X (.builtin "sorted") (rSortedSet w) := hw ▸ cr_sortedSet hc
/-- q = sorted(set(e)) -/
theorem s_sortedS {q : Nat} {w : World} (e : Ex B H) (h : EvR ta σ B (eI ns)) (hl : ns.length < 64) (k : ∀ o v B1 H1, (∀ x, x ∈ o ↔ x ∈ ns) → o.Pairwise (· < ·) → New B H B1 H1 → R B1 v (eI o) → D.nx (σ.set q (some v)) H1) :
    tAsg (tCB (rSortedSet w) (tCons (tCB (rSetL w K) (tCons ta tNil)) tNil)) (gName q) D σ H :=
  h H e _ fun v B1 H1 n rv => by
    obtain ⟨p, rfl, hp⟩ := rv.eI_inv
    refine ⟨p, ns, rfl, sq_of (n.sub _ _ hp), by omega, fun q ms nd hm hq => ⟨q, _, _, rfl, upd_same, ?_, fun o p2 hs ho hlen hp2 => ?_⟩⟩
    · have := nodup_len nd fun x hx => (hm x).mp hx
      omega
    · have n1 : New B1 H1 B1 (upd H1 q (SetO w q (fun j => decide (j ∈ ns)) ms.length)) := New.grow (n.sub.trans (Ex.new hq)) (Ex.new hq) n.sub
      exact k o _ _ _ (fun x => by rw [ho x, decide_eq_true_eq]) hs (n.trans (n1.trans (New.one n1.sub hp2))) (.lst upd_same (RA.ints o))
/-- e[1:] -/
theorem cut1 : cutV (ns.map V.int) (some 1) none = (ns.drop 1).map V.int := by
  have e1 : HT.sIx (ns.map V.int).length 0 (some 1) = min 1 ns.length := by rw [List.length_map]; exact HT.sIx_nat _ _ 1
  have e2 : HT.sIx (ns.map V.int).length (ns.map V.int).length none = ns.length := by rw [HT.sIx_none, List.length_map]
  unfold cutV
  rw [e1, e2, List.take_of_length_le (by rw [List.length_drop, List.length_map]; omega)]
  cases ns with
  | nil => rfl
  | cons n ns => rw [show min 1 (n :: ns).length = 1 by rw [List.length_cons]; omega]; rfl
theorem ev_sl1 (h : EvR ta σ B (eI ns)) : EvR (tSl (rSlL K) ta (tPart (tC (.int 1))) tNoPart) σ B (eI (ns.drop 1)) := fun H1 e Q q =>
  h H1 e _ fun v B1 H2 n rv => by
    obtain ⟨p, rfl, hp⟩ := rv.eI_inv
    refine ⟨1, rfl, p, _, rfl, sq_of (n.sub _ _ hp), fun p2 hp2 => ?_⟩
    rw [cut1]
    exact q _ _ _ (n.trans (New.one n.sub hp2)) (.lst upd_same (RA.ints _))
/-- over zip of two lists of ints, the second one no longer -/
theorem s_zip (e : Ex B H) (ha : EvR ta σ B (eI ns)) (hb : EvR tb σ B (eI ms)) (hl : ms.length ≤ ns.length) (Pv : Hp → Hp → Nat → L2.St → Hp → Prop) (h0 : ∀ B1 H1, New B H B1 H1 → Pv B1 H1 0 σ H1) (hx : ∀ B1 H1 i σ' H', Pv B1 H1 i σ' H' → Ex B1 H')
    (hs : ∀ B1 H1 i x y T σ' H', New B H B1 H1 → ns[i]? = some x → ms[i]? = some y → Pv B1 H1 i σ' H' → H' T = none → g (.ref T) σ' (upd H' T (.tup [.int x, .int y])) fun σ2 H2 => tu { D with nx := Pv B1 H1 (i + 1), ct := Pv B1 H1 (i + 1), bk := D.nx } σ2 H2)
    (hd : ∀ B1 H1 σ' H', New B H B1 H1 → Pv B1 H1 ms.length σ' H' → D.nx σ' H') : tFor (RZ.iZipA K (tCons ta (tCons tb tNil))) g tu D σ H := ha H e _ fun v B1 H1 n rv => (hb.mono n.ext) H1 n.sub _ fun w B2 H2 n2 rw => by
  obtain ⟨p, rfl, hp⟩ := rv.eI_inv
  obtain ⟨q, rfl, hq⟩ := rw.eI_inv
  have hp2 := n2.ext _ _ hp
  have n3 := n.trans n2
  refine ⟨p, q, _, _, rfl, .inl ⟨sq_of (n3.sub _ _ hp2), sq_of (n3.sub _ _ hq), fun i m σ H => m = ms.length - i ∧ i ≤ ms.length ∧ Pv B2 H2 i σ H, ⟨ms.length, rfl, Nat.zero_le _, h0 B2 H2 n3⟩, ?_⟩⟩
  rintro i m σ' H' ⟨rfl, hi, pv⟩
  have e' := hx _ _ _ _ _ pv
  have qx : SqL K H' p (ns.map V.int) := sq_of (e' _ _ hp2)
  have qy : SqL K H' q (ms.map V.int) := sq_of (e' _ _ hq)
  by_cases hlt : i < ms.length
  · have hlt2 : i < ns.length := by omega
    have hx1 : (ns.map V.int)[i]? = some (.int ns[i]) := by rw [List.getElem?_map, List.getElem?_eq_getElem hlt2]; rfl
    have hy1 : (ms.map V.int)[i]? = some (.int ms[i]) := by rw [List.getElem?_map, List.getElem?_eq_getElem hlt]; rfl
    refine .inr ⟨⟨_, _, _, _, qx, qy, hx1, hy1⟩, Pv B2 H2 (i + 1), fun σ' H' p' => ⟨ms.length - (i + 1), by omega, rfl, hlt, p'⟩, fun v H'' y => ?_⟩
    obtain ⟨T, x', y', rfl, hT, rfl, f1, f2⟩ := y
    have e1 := (f1 _ qx).symm.trans hx1
    have e2 := (f2 _ qy).symm.trans hy1
    cases e1; cases e2
    exact hs B2 H2 i _ _ T σ' H' n3 (List.getElem?_eq_getElem hlt2) (List.getElem?_eq_getElem hlt) pv hT
  · have : i = ms.length := by omega
    subst this
    exact .inl ⟨⟨_, _, qx, qy, Or.inr (by rw [List.length_map]; exact Nat.le_refl _)⟩, hd _ _ _ _ n3 pv⟩
theorem g_tup2 {k' : L2.St → Hp → Prop} {a b : V} {T : Addr} (h : k' ((σ.set i (some a)).set j (some b)) (upd H T (.tup [a, b]))) : gTup K 2 (gCons (gName i) (gCons (gName j) gNil)) (.ref T) σ (upd H T (.tup [a, b])) k' :=
  ⟨T, _, rfl, st_of upd_same, rfl, _, _, rfl, _, _, rfl, rfl, h⟩
/-- a dict of one's own -/
structure OwnK (H0 B H : Hp) (p : Addr) (kvs : List (Key × V)) : Prop where
  h0 : H0 p = none
  b : B p = none
  h : H p = some (.dK kvs)
theorem New.giveK {B0 H0 B H : Hp} {p : Addr} {kvs : List (Key × V)} (n : New B0 H0 B H) (o : OwnK H0 B H p kvs) : New B0 H0 (upd B p (.dK kvs)) H := by
  refine ⟨n.ext.trans (Ex.new o.b), fun q u h => ?_, n.heap, fun q h1 h2 => ?_⟩
  · by_cases hq : q = p
    · subst hq; rw [upd_same] at h; cases h; exact o.h
    · rw [upd_ne hq] at h; exact n.sub q u h
  · rw [upd_ne (fun z => by subst z; exact h2 o.h0)]; exact n.fresh q h1 h2
/-- q = {a: b} -/
theorem s_disp {q : Nat} {a c : Int} (e : Ex B H) (hk : EvR tk σ B (.int a)) (hv : EvR tv σ B (.int c)) (k : ∀ p B1 H1, New B H B1 H1 → OwnK H B1 H1 p [(.inl a, .int c)] → D.nx (σ.set q (some (.ref p))) H1) : tAsg (tDisp [(tk, tv)]) (gName q) D σ H := fun p hp => by
  have hb := fresh_back e hp
  have e1 : Ex B (upd H p (.dK [])) := e.trans (Ex.new hp)
  refine hk _ e1 _ fun v B1 H1 n1 r1 => (hv.mono n1.ext) H1 n1.sub _ fun w B2 H2 n2 r2 => ?_
  cases r1; cases r2
  have n3 := n1.trans n2
  have b2 := n3.fresh p hb (by rw [upd_same]; simp)
  have h2 := n3.heap p _ upd_same
  refine ⟨h2, [(.inl a, .int c)], rfl, by simp, k p B2 _ ⟨n3.ext, Evl.Ex.mut n3.sub b2, ?_, fun x z1 z2 => n3.fresh x z1 fun z3 => ?_⟩ ⟨hp, b2, upd_same⟩⟩
  · exact Evl.Ex.mut ((Ex.new hp).trans n3.heap) hp
  · by_cases hx : x = p
    · subst hx; exact z2 hp
    · rw [upd_ne hx] at z3; exact z2 z3
/-- q[e], q a dict that is known -/
theorem ev_dget {p : Addr} {kvs : List (Key × V)} {a c : Int} (ho : σ[n]? = some (some (.ref p))) (hp : B p = some (.dK kvs)) (h : EvR te σ B (.int a)) (hv : valV kvs (.inl a) = some (.int c)) : EvR (tDGet (tVar n) te) σ B (.int c) := fun H1 e Q q =>
  ⟨_, ho, h H1 e _ fun v B2 H2 n2 r => by
    cases r
    exact ⟨p, _, rfl, by rw [← hv]; exact DGet.k (k := .inl a) (n2.sub _ _ (n2.ext _ _ hp)), q _ B2 H2 n2 (.int c)⟩⟩
/-- q[e] = f -/
theorem s_dput {p : Addr} {kvs : List (Key × V)} {a c : Int} {H0 : Hp} (e : Ex B H) (o : OwnK H0 B H p kvs) (ho : σ[n]? = some (some (.ref p))) (hv : EvR tv σ (upd B p (.dK kvs)) (.int c)) (hk : ∀ B1, Ex B B1 → EvR tk σ B1 (.int a)) (hl : kvs.length ≤ 1000)
    (k : ∀ H1, Ex B H1 → Ex H0 H → Ex H0 H1 → OwnK H0 B H1 p (putK kvs (.inl a) (.int c)) → D.nx σ H1) (h0 : Ex H0 H) : sDPut (tVar n) tk tv D σ H := by
  have eB : Ex (upd B p (.dK kvs)) H := fun q u h => by
    by_cases hq : q = p
    · subst hq; rw [upd_same] at h; cases h; exact o.h
    · rw [upd_ne hq] at h; exact e q u h
  have eb0 : Ex B (upd B p (.dK kvs)) := Ex.new o.b
  refine hv H eB _ fun v B1 H1 n1 r1 => ⟨_, ho, (hk B1 (eb0.trans n1.ext)) H1 n1.sub _ fun w B2 H2 n2 r2 => ?_⟩
  cases r1; cases r2
  have n3 := n1.trans n2
  have h2 := n3.heap _ _ o.h
  refine ⟨p, _, rfl, DPut.k (k := .inl a) h2 (sz_lt (by omega)), k _ (Evl.Ex.mut (e.trans n3.heap) o.b) h0 (Evl.Ex.mut (h0.trans n3.heap) o.h0) ⟨o.h0, o.b, upd_same⟩⟩
end
end U
namespace U
open PySem L2
section
variable {K : PySem.W.Frag}
theorem k_sortedI {X : Cx} (h : X.K = K) : CallR X (.builtin "sorted") (rSortedI K) := h ▸ cr_sortedI
theorem k_zip {X : Cx} {e e2 : Expr} {ta : TA} {p pos tpos : Pos} {elts : List Expr} {kk : Nat} (h : X.K = K) (hg : Gl X "zip") (hm : X.mg "zip" = none) (ha : PA X [e, e2] ta)
    (hs : starEach [e, e2] X.env = (false, eval e X.env) :: starEach [e2] X.env := by rfl) (hpl : (backTo pos (starEach [e2] X.env)).any (·.1) = false := by rfl) :
    PI X (.Tuple elts kk tpos) (.Call (.Name "zip" p) [e, e2] [] pos) (RZ.iZipA K ta) := h ▸ RZ.pi_zipA hg hm ha hs hpl
theorem k_index {X : Cx} (h : X.K = K) : MtR X "list.index" (rIndex K) := h ▸ mt_index
theorem unit1 {a b : Nat} (h : a + 64 < b) : a + 1 < b := Nat.lt_of_le_of_lt (Nat.add_le_add_left (by decide) _) h
end
end U

namespace U
open PySem L2
open Evl (Ex fresh_back sz_of sz_lt sq_of st_of rLenS rListS)
section
variable {K : PySem.W.Frag} {σ : L2.St} {B B' H : Hp} {te : TE} {tl : TA} {D : Ends} {i j n : Nat} {ns ms : List Int} {tu : TS}
theorem s_appI {H0 : Hp} {p : Addr} {a : Int} (e : Ex B H) (o : Own H0 B H p (ns.map V.int)) (hv : σ[n]? = some (some (.ref p))) (h : EvR te σ (upd B p (.lst (ns.map V.int))) (.int a)) (hz : ns.length < 100000) (h0 : Ex H0 H)
    (k : ∀ H1, Ex B H1 → Ex H0 H1 → Own H0 B H1 p ((ns ++ [a]).map V.int) → D.nx σ H1) : tDrop (tBM K "list" rAppend (tVar n) (tCons te tNil)) D σ H :=
  ⟨_, hv, .inl ⟨rfl, _, .inl (.inl o.h)⟩, h H (o.ex e) _ fun v B1 H1 nw rv => by
    cases rv
    refine ⟨p, _, .int a, rfl, rfl, nw.heap _ _ o.h, sz_lt (by rw [List.length_map]; exact hz), k _ (Evl.Ex.mut (e.trans nw.heap) o.b) (Evl.Ex.mut (h0.trans nw.heap) o.h0) ⟨o.h0, o.b, ?_⟩⟩
    rw [upd_same, List.map_append]; rfl⟩
theorem ev_lix {a : Int} {v : V} (hv : σ[n]? = some (some v)) (r : R B v (eI ns)) (h : EvR te σ B (.int a)) (hj : ns[j]? = some a) (hm : ∀ m, m < j → ns[m]? ≠ some a) : EvR (tBM K "list" (rIndex K) (tVar n) (tCons te tNil)) σ B (.int (j : Nat)) := fun H1 e Q q => by
  obtain ⟨p, rfl, hp⟩ := r.eI_inv
  refine ⟨_, hv, .inl ⟨rfl, _, .inl (.inl (e _ _ hp))⟩, h H1 e _ fun v B2 H2 n2 r2 => ?_⟩
  cases r2
  refine ⟨p, _, .int a, j, .int a, rfl, rfl, sq_of (n2.heap _ _ (e _ _ hp)), rfl, by simp [flatV], by rw [List.getElem?_map, hj]; rfl, by simp [eqV], fun m z hmj hz => ?_, q _ B2 H2 n2 (.int _)⟩
  rw [List.getElem?_map] at hz
  cases hx : ns[m]? with
  | none => rw [hx] at hz; cases hz
  | some y =>
    rw [hx] at hz; cases hz
    have : y ≠ a := fun z => hm m hmj (z ▸ hx)
    simp [eqV, this]
/-- over range(1, n) -/
theorem s_for1 {m : Nat} (e : Ex B H) (h : EvRA tl σ B [.int 1, .int (m : Int)]) (hn : m ≤ 1000000) (Pv : Nat → L2.St → Hp → Prop) (h0 : ∀ H1, Up B H H1 → Pv 0 σ H1)
    (hs : ∀ (i : Nat) σ' H', i + 1 < m → Pv i σ' H' → tu { D with nx := Pv (i + 1), ct := Pv (i + 1), bk := D.nx } (σ'.set j (some (.int ((i + 1 : Nat) : Int)))) H') (hd : ∀ σ' H', Pv (m - 1) σ' H' → D.nx σ' H') :
    tFor (iRng2 tl) (gName j) tu D σ H := h H e _ fun vs B1 H1 nw ra => by
  cases ra with | cons r1 ra =>
  cases ra with | cons r2 ra =>
  cases r1; cases r2; cases ra
  have em : ((m : Int) - 1).toNat = m - 1 := by omega
  refine ⟨1, (m : Int), rfl, ⟨by omega, by omega, by omega, by omega⟩, ?_⟩
  rw [em]
  refine for_range (lo := 1) (n := m - 1) Pv (h0 H1 ⟨e, e.trans nw.heap, nw.heap⟩) (fun i σ' H' hi q => ?_) hd
  have e0 : (1 : Int) + (i : Int) = ((i + 1 : Nat) : Int) := by omega
  rw [e0]
  exact hs i σ' H' (by omega) q
end
section
theorem k_bm {X : Cx} {K : PySem.W.Frag} (hK : X.K = K) {o e : Expr} {es : List Expr} {to : TE} {t : TA} {name : Str} {apos cpos : Pos} {T id : String} {r : V → List V → Hp → VK → Prop} (pa : PlainAttrs T) (slot : Slot T name id) (hty : typeOf (.builtin id) = pure (.type "method_descriptor")) (hm : MtR X id r) (ho : PE X o to) (ha : PA X (e :: es) t)
    (hbase : attributeBase o name X.env (eval o X.env) = eval o X.env := by rfl)
    (hfew : ((backTo cpos (starEach (e :: es) X.env)).all (fun x => !x.1) && (backToKw cpos (keywordEach [] X.env)).all (fun x => x.1.isSome)
      && decide ((e :: es).length + ([] : List Keyword).length + (if ([] : List Keyword).isEmpty then 0 else 1) < 30)) = true := by rfl)
    (hline : (apos.endLine == cpos.line) = true := by rfl) (hs : starEach (e :: es) X.env = (false, eval e X.env) :: starEach es X.env := by rfl) (hplain : (backTo cpos (starEach es X.env)).any (·.1) = false := by rfl) :
    PE X (.Call (.Attribute o name apos) (e :: es) [] cpos) (tBM K T r to t) := hK ▸ pe_bm pa slot hty hm ho ha hbase hfew hline hs hplain
end
end U

set_option maxHeartbeats 4000000
local macro_rules | `(tactic| walk_at "u_rr") => `(tactic| first
  | assumption | exact U.R.int _ | exact U.R.bl _ | exact U.R.str _ | exact U.R.non
  | (apply U.R.mono; (first | (apply U.New.ext; assumption) | assumption); walk_at "u_rr"))
local macro_rules | `(tactic| walk_at "u_side") => `(tactic| first | assumption | decide | omega | rfl | (simp; done) | (simp; omega))
local macro_rules | `(tactic| walk_at "u_rv") => `(tactic| first
  | with_reducible exact U.rv_add | with_reducible exact U.rv_inl U.rv_add | with_reducible exact U.rv_sub
  | with_reducible exact U.rv_lt | with_reducible exact U.rv_le | with_reducible exact U.rv_gt | with_reducible exact U.rv_ge
  | with_reducible exact U.rv_inl U.rv_eqI | with_reducible exact U.rv_inl U.rv_neI | with_reducible exact U.rv_inl U.rv_eqS | with_reducible exact U.rv_inl U.rv_neS
  | ((with_reducible refine' U.rv_mul ?_); (unfold L2.CMul; walk_at "u_side"))
  | ((with_reducible refine' U.rv_mod ?_); walk_at "u_side")
  | ((with_reducible refine' U.rv_div ?_); (unfold L2.CDiv; walk_at "u_side"))
  | ((with_reducible refine' U.rv_pow ?_); (unfold L2.CPow; walk_at "u_side"))
  | ((with_reducible refine' U.rv_shr ?_); walk_at "u_side")
  | ((with_reducible refine' U.rv_ixL ?_); walk_at "u_side")
  | ((with_reducible refine' U.rv_ixT ?_); walk_at "u_side")
  | ((with_reducible refine' U.rv_inr (U.rv_cat ?_)); walk_at "u_side")
  | ((with_reducible refine' U.rv_inr (U.rv_eqD ?_ ?_)) <;> walk_at "u_side")
  | ((with_reducible refine' U.rv_inr (U.rv_neD ?_ ?_)) <;> walk_at "u_side"))
local macro_rules | `(tactic| walk_at "u_rl") => `(tactic| first
  | with_reducible exact U.rl_lenL | with_reducible exact U.rl_lenT | with_reducible exact U.rl_list | with_reducible exact U.rl_listT | with_reducible exact U.rl_tuple
  | with_reducible exact U.rl_abs | with_reducible exact U.rl_int | with_reducible exact U.rl_max2 | with_reducible exact U.rl_min2
  | ((with_reducible refine' U.rl_reprD ?_ ?_); rfl; assumption)
  | with_reducible exact U.rl_all
  | ((with_reducible refine' U.rl_min ?_); walk_at "u_side"))
local macro_rules | `(tactic| walk_at "u_call") => `(tactic| fail)
local macro_rules | `(tactic| walk_at "u_lc") => `(tactic| fail)
local macro_rules | `(tactic| walk_at "u_ea") => `(tactic| first
  | with_reducible exact U.ea_nil
  | ((with_reducible refine' U.ea_cons ?ha ?hb); (case ha => walk_at "u_ev"); (case hb => walk_at "u_ea")))
local macro_rules | `(tactic| walk_at "u_ev") => `(tactic| first
  | ((with_reducible refine' U.ev_v ?ha ?hb); (case ha => rfl); (case hb => walk_at "u_rr"))
  | with_reducible exact U.ev_i | with_reducible exact U.ev_s | with_reducible exact U.ev_b | with_reducible exact U.ev_n
  | ((with_reducible refine' U.ev_isTy ?ha); (case ha => walk_at "u_ev"))
  | ((with_reducible refine' U.ev_isi ?ha ?hb); (case ha => walk_at "u_ev"); (case hb => decide +kernel))
  | ((with_reducible refine' U.ev_op ?ha ?hb ?hc); (case ha => walk_at "u_ev"); (case hb => walk_at "u_ev"); (case hc => walk_at "u_rv"))
  | ((with_reducible refine' U.ev_un ?ha ?hc); (case ha => walk_at "u_ev"); (case hc => with_reducible exact U.ru_neg))
  | ((with_reducible refine' U.ev_cb ?ha ?hc); (case ha => walk_at "u_ea"); (case hc => walk_at "u_rl"))
  | ((with_reducible refine' U.ev_tup ?ha ?hc); (case ha => walk_at "u_ea"); (case hc => walk_at "u_side"))
  | ((with_reducible refine' U.ev_lst ?ha ?hc); (case ha => walk_at "u_ea"); (case hc => walk_at "u_side"))
  | ((with_reducible refine' U.ev_and ?ha ?hc); (case ha => walk_at "u_ev"); (case hc => (intro _; walk_at "u_ev")))
  | ((with_reducible refine' U.ev_or ?ha ?hc); (case ha => walk_at "u_ev"); (case hc => (intro _; walk_at "u_ev")))
  | ((with_reducible refine' U.ev_not ?ha); (case ha => walk_at "u_ev"))
  | ((with_reducible refine' U.ev_ifI ?ha ?hb ?hc); (case ha => walk_at "u_ec"); (case hb => walk_at "u_ev"); (case hc => walk_at "u_ev"))
  | ((with_reducible refine' U.ev_call ?ha ?hb); (case ha => walk_at "u_ea"); (case hb => walk_at "u_call"))
  | walk_at "u_lc")
local macro_rules | `(tactic| walk_at "u_ec") => `(tactic| first
  | ((with_reducible refine' U.ec_t ?ha); (case ha => walk_at "u_ev"))
  | ((with_reducible refine' U.ec_v ?ha); (case ha => walk_at "u_ev"))
  | ((with_reducible refine' U.ec_and ?ha ?hc); (case ha => walk_at "u_ec"); (case hc => (intro _; walk_at "u_ec")))
  | ((with_reducible refine' U.ec_or ?ha ?hc); (case ha => walk_at "u_ec"); (case hc => (intro _; walk_at "u_ec")))
  | ((with_reducible refine' U.ec_not ?ha); (case ha => walk_at "u_ec")))
local macro_rules | `(tactic| walk_at "u_n") => `(tactic| ((try (with_reducible refine' U.s_next ?_)); (try dsimp only)))
local macro_rules | `(tactic| walk_at "u_ev") => `(tactic| first
  | ((with_reducible refine' U.ev_chain ?ha ?hb ?hc ?hd ?he); (case ha => walk_at "u_ev"); (case hb => walk_at "u_ev"); (case hc => walk_at "u_rv"); (case hd => (intro _; walk_at "u_ev")); (case he => (intro _; walk_at "u_rv"))))
local macro_rules | `(tactic| walk_at "u_call") => `(tactic| first
  | exact ⟨_, rfl, rfl⟩ | exact ⟨_, _, rfl, rfl⟩ | exact ⟨_, _, _, rfl, rfl⟩ | exact ⟨_, _, _, _, rfl, rfl⟩)
local macro_rules | `(tactic| walk_at "u_lci") => `(tactic| (
  (refine' U.q_lc1 (enc := U.Dt.int) ?h ?it ?hz ?hw ?he); (case h => walk_at "u_ev"); (case it => first | exact U.Items.lst _ | exact U.Items.tup _); (case hz => walk_at "u_side"); (case hw => (intro _; rfl)); (case he => (intro q v B1 hm hB rv; cases rv; walk_at "u_ev"))))

namespace Law
open PySem L2 U
open Evl (Ex rLenS rListS st_of sq_of sz_lt sz_of fresh_back)
def top (i : Nat) : Stmt := PySem.Challenge.pw_unknowncorners_k10_settings_closed.main.body.getD i (.Pass ⟨0, 0, 0, 0⟩)
abbrev s_is_within : Stmt := top 7
abbrev s_is_tuple_of : Stmt := top 8
abbrev s_is_frame : Stmt := top 9
abbrev s_need_frame : Stmt := top 10
abbrev s_is_row : Stmt := top 13
abbrev s_is_setting : Stmt := top 14
abbrev s_need_setting : Stmt := top 15
abbrev s_need_widths : Stmt := top 16
abbrev s_plain_row : Stmt := top 17
abbrev s_plain : Stmt := top 18
abbrev s_closed_row : Stmt := top 19
abbrev s_closed : Stmt := top 20
abbrev s__law_cell : Stmt := top 22
abbrev s__law_draw : Stmt := top 23
abbrev s__law_values : Stmt := top 24
abbrev s__law_frame : Stmt := top 25
abbrev s__law_setting : Stmt := top 26
abbrev s__law_closed : Stmt := top 28
abbrev s__law_same : Stmt := top 29
abbrev s__law_width : Stmt := top 30
abbrev s__law_right : Stmt := top 31
abbrev s_law : Stmt := top 32
theorem sc_is_within : FnScope ["value", "least", "most"] ["value", "least", "most"] (defScope s_is_within) := ⟨rfl, rfl, rfl, by decide +kernel, rfl, by decide +kernel, by decide +kernel⟩
theorem sc_is_tuple_of : FnScope ["value", "many"] ["value", "many"] (defScope s_is_tuple_of) := ⟨rfl, rfl, rfl, by decide +kernel, rfl, by decide +kernel, by decide +kernel⟩
theorem sc_is_frame : FnScope ["value", "item"] ["value"] (defScope s_is_frame) := ⟨rfl, rfl, rfl, by decide +kernel, rfl, by decide +kernel, by decide +kernel⟩
theorem sc_need_frame : FnScope ["frame"] ["frame"] (defScope s_need_frame) := ⟨rfl, rfl, rfl, by decide +kernel, rfl, by decide +kernel, by decide +kernel⟩
theorem sc_is_row : FnScope ["value", "many", "item"] ["value", "many"] (defScope s_is_row) := ⟨rfl, rfl, rfl, by decide +kernel, rfl, by decide +kernel, by decide +kernel⟩
theorem sc_is_setting : FnScope ["frame", "value"] ["frame", "value"] (defScope s_is_setting) := ⟨rfl, rfl, rfl, by decide +kernel, rfl, by decide +kernel, by decide +kernel⟩
theorem sc_need_setting : FnScope ["frame", "setting"] ["frame", "setting"] (defScope s_need_setting) := ⟨rfl, rfl, rfl, by decide +kernel, rfl, by decide +kernel, by decide +kernel⟩
theorem sc_need_widths : FnScope ["widths", "item"] ["widths"] (defScope s_need_widths) := ⟨rfl, rfl, rfl, by decide +kernel, rfl, by decide +kernel, by decide +kernel⟩
theorem sc_plain_row : FnScope ["values", "least", "item", "value"] ["values"] (defScope s_plain_row) := ⟨rfl, rfl, rfl, by decide +kernel, rfl, by decide +kernel, by decide +kernel⟩
theorem sc_plain : FnScope ["frame", "setting", "across", "down"] ["frame", "setting"] (defScope s_plain) := ⟨rfl, rfl, rfl, by decide +kernel, rfl, by decide +kernel, by decide +kernel⟩
theorem sc_closed_row : FnScope ["values", "width", "ordered", "item", "places", "before", "behind", "value"] ["values", "width"] (defScope s_closed_row) := ⟨rfl, rfl, rfl, by decide +kernel, rfl, by decide +kernel, by decide +kernel⟩
theorem sc_closed : FnScope ["frame", "setting", "widths", "across", "down", "wide", "high"] ["frame", "setting", "widths"] (defScope s_closed) := ⟨rfl, rfl, rfl, by decide +kernel, rfl, by decide +kernel, by decide +kernel⟩
theorem sc__law_cell : FnScope ["script", "k"] ["script", "k"] (defScope s__law_cell) := ⟨rfl, rfl, rfl, by decide +kernel, rfl, by decide +kernel, by decide +kernel⟩
theorem sc__law_draw : FnScope ["cell", "k", "limit", "seed", "first", "second", "third"] ["cell", "k", "limit"] (defScope s__law_draw) := ⟨rfl, rfl, rfl, by decide +kernel, rfl, by decide +kernel, by decide +kernel⟩
theorem sc__law_values : FnScope ["cell", "k", "many", "found", "j", "mode", "amount"] ["cell", "k", "many"] (defScope s__law_values) := ⟨rfl, rfl, rfl, by decide +kernel, rfl, by decide +kernel, by decide +kernel⟩
theorem sc__law_frame : FnScope ["cell"] ["cell"] (defScope s__law_frame) := ⟨rfl, rfl, rfl, by decide +kernel, rfl, by decide +kernel, by decide +kernel⟩
theorem sc__law_setting : FnScope ["cell", "plane"] ["cell", "plane"] (defScope s__law_setting) := ⟨rfl, rfl, rfl, by decide +kernel, rfl, by decide +kernel, by decide +kernel⟩
theorem sc__law_closed : FnScope ["values", "width", "levels", "amount", "places", "k", "gap"] ["values", "width"] (defScope s__law_closed) := ⟨rfl, rfl, rfl, by decide +kernel, rfl, by decide +kernel, by decide +kernel⟩
theorem sc__law_same : FnScope ["found", "due"] ["found", "due"] (defScope s__law_same) := ⟨rfl, rfl, rfl, by decide +kernel, rfl, by decide +kernel, by decide +kernel⟩
theorem sc__law_width : FnScope ["cell", "k"] ["cell", "k"] (defScope s__law_width) := ⟨rfl, rfl, rfl, by decide +kernel, rfl, by decide +kernel, by decide +kernel⟩
theorem sc__law_right : FnScope ["cell", "plane", "point", "span", "kept", "due", "told", "row", "wider"] ["cell"] (defScope s__law_right) := ⟨rfl, rfl, rfl, by decide +kernel, rfl, by decide +kernel, by decide +kernel⟩
theorem sc_law : FnScope ["script", "k"] ["script"] (defScope s_law) := ⟨rfl, rfl, rfl, by decide +kernel, rfl, by decide +kernel, by decide +kernel⟩
def kb_closed_0_g : List Value → List Value → List Value | [], [w0, w1, w2] => [w2, w1, w0] | _, _ => []
def kb_closed_0_v : List V → List V → List V | [], [w0, w1, w2] => [w2, w1, w0] | _, _ => []
def kb_closed_0_d : List Dt → List Dt → List Dt | [], [w0, w1, w2] => [w2, w1, w0] | _, _ => []
theorem kb_closed_0_rel {vs : List V} {us : List Value} {zs : List V} {ws : List Value} (r1 : Vals vs us) (r2 : Vals zs ws) : Vals (kb_closed_0_v vs zs) (kb_closed_0_g us ws) := by
  cases r1 with
  | cons _ _ => exact .nil
  | nil =>
    cases r2 with
    | nil => exact .nil
    | cons b0 r2 =>
      cases r2 with
      | nil => exact .nil
      | cons b1 r2 =>
        cases r2 with
        | nil => exact .nil
        | cons b2 r2 =>
          cases r2 with
          | cons _ _ => exact .nil
          | nil =>
            exact (.cons b2 (.cons b1 (.cons b0 .nil)))
theorem kb_closed_0_reld {B : Hp} {vs : List V} {us : List Dt} {zs : List V} {ws : List Dt} (r1 : RA B vs us) (r2 : RA B zs ws) : RA B (kb_closed_0_v vs zs) (kb_closed_0_d us ws) := by
  cases r1 with
  | cons _ _ => exact .nil
  | nil =>
    cases r2 with
    | nil => exact .nil
    | cons b0 r2 =>
      cases r2 with
      | nil => exact .nil
      | cons b1 r2 =>
        cases r2 with
        | nil => exact .nil
        | cons b2 r2 =>
          cases r2 with
          | cons _ _ => exact .nil
          | nil =>
            exact (.cons b2 (.cons b1 (.cons b0 .nil)))
structure Txt (K : PySem.W.Frag) (mg : Str → Option Value) (fa : Nat → Addr) (fd : Nat → FuncData) : Prop where
  d_is_within : At K mg "is_within" s_is_within (fa 7) (fd 7)
  d_is_tuple_of : At K mg "is_tuple_of" s_is_tuple_of (fa 8) (fd 8)
  d_is_frame : At K mg "is_frame" s_is_frame (fa 9) (fd 9)
  d_need_frame : At K mg "need_frame" s_need_frame (fa 10) (fd 10)
  d_is_row : At K mg "is_row" s_is_row (fa 13) (fd 13)
  d_is_setting : At K mg "is_setting" s_is_setting (fa 14) (fd 14)
  d_need_setting : At K mg "need_setting" s_need_setting (fa 15) (fd 15)
  d_need_widths : At K mg "need_widths" s_need_widths (fa 16) (fd 16)
  d_plain_row : At K mg "plain_row" s_plain_row (fa 17) (fd 17)
  d_plain : At K mg "plain" s_plain (fa 18) (fd 18)
  d_closed_row : At K mg "closed_row" s_closed_row (fa 19) (fd 19)
  d_closed : At K mg "closed" s_closed (fa 20) (fd 20)
  d__law_cell : At K mg "_law_cell" s__law_cell (fa 22) (fd 22)
  d__law_draw : At K mg "_law_draw" s__law_draw (fa 23) (fd 23)
  d__law_values : At K mg "_law_values" s__law_values (fa 24) (fd 24)
  d__law_frame : At K mg "_law_frame" s__law_frame (fa 25) (fd 25)
  d__law_setting : At K mg "_law_setting" s__law_setting (fa 26) (fd 26)
  d__law_closed : At K mg "_law_closed" s__law_closed (fa 28) (fd 28)
  d__law_same : At K mg "_law_same" s__law_same (fa 29) (fd 29)
  d__law_width : At K mg "_law_width" s__law_width (fa 30) (fd 30)
  d__law_right : At K mg "_law_right" s__law_right (fa 31) (fd 31)
  d_law : At K mg "law" s_law (fa 32) (fd 32)
  k_MOST_UNKNOWNS : ∃ t, mg "MOST_UNKNOWNS" = some (.int 3 t)
  k_MOST_WIDTH : ∃ t, mg "MOST_WIDTH" = some (.int 40 t)
  n_ValueError : mg "ValueError" = none
  n_abs : mg "abs" = none
  n_all : mg "all" = none
  n_int : mg "int" = none
  n_isinstance : mg "isinstance" = none
  n_len : mg "len" = none
  n_list : mg "list" = none
  n_max : mg "max" = none
  n_min : mg "min" = none
  n_range : mg "range" = none
  n_repr : mg "repr" = none
  n_set : mg "set" = none
  n_sorted : mg "sorted" = none
  n_tuple : mg "tuple" = none
  n_type : mg "type" = none
  n_zip : mg "zip" = none
section
variable {K : PySem.W.Frag} {mg : Str → Option Value} {fa : Nat → Addr} {fd : Nat → FuncData}
theorem bn_is_within (T : Txt K mg fa fd) : Binds K (fd 7) ["value", "least", "most"] [] := T.d_is_within.F.binds fun _ _ _ _ _ _ us hl => match us, hl with | [_, _, _], _ => rfl
theorem bn_is_tuple_of (T : Txt K mg fa fd) : Binds K (fd 8) ["value", "many"] [] := T.d_is_tuple_of.F.binds fun _ _ _ _ _ _ us hl => match us, hl with | [_, _], _ => rfl
theorem bn_is_frame (T : Txt K mg fa fd) : Binds K (fd 9) ["value"] [] := T.d_is_frame.F.binds fun _ _ _ _ _ _ us hl => match us, hl with | [_], _ => rfl
theorem bn_need_frame (T : Txt K mg fa fd) : Binds K (fd 10) ["frame"] [] := T.d_need_frame.F.binds fun _ _ _ _ _ _ us hl => match us, hl with | [_], _ => rfl
theorem bn_is_row (T : Txt K mg fa fd) : Binds K (fd 13) ["value", "many"] [] := T.d_is_row.F.binds fun _ _ _ _ _ _ us hl => match us, hl with | [_, _], _ => rfl
theorem bn_is_setting (T : Txt K mg fa fd) : Binds K (fd 14) ["frame", "value"] [] := T.d_is_setting.F.binds fun _ _ _ _ _ _ us hl => match us, hl with | [_, _], _ => rfl
theorem bn_need_setting (T : Txt K mg fa fd) : Binds K (fd 15) ["frame", "setting"] [] := T.d_need_setting.F.binds fun _ _ _ _ _ _ us hl => match us, hl with | [_, _], _ => rfl
theorem bn_need_widths (T : Txt K mg fa fd) : Binds K (fd 16) ["widths"] [] := T.d_need_widths.F.binds fun _ _ _ _ _ _ us hl => match us, hl with | [_], _ => rfl
theorem bn_plain_row (T : Txt K mg fa fd) : Binds K (fd 17) ["values"] [] := T.d_plain_row.F.binds fun _ _ _ _ _ _ us hl => match us, hl with | [_], _ => rfl
theorem bn_plain (T : Txt K mg fa fd) : Binds K (fd 18) ["frame", "setting"] [] := T.d_plain.F.binds fun _ _ _ _ _ _ us hl => match us, hl with | [_, _], _ => rfl
theorem bn_closed_row (T : Txt K mg fa fd) : Binds K (fd 19) ["values", "width"] [] := T.d_closed_row.F.binds fun _ _ _ _ _ _ us hl => match us, hl with | [_, _], _ => rfl
theorem bn_closed (T : Txt K mg fa fd) : Binds K (fd 20) ["frame", "setting", "widths"] [] := T.d_closed.F.binds fun _ _ _ _ _ _ us hl => match us, hl with | [_, _, _], _ => rfl
theorem bn__law_cell (T : Txt K mg fa fd) : Binds K (fd 22) ["script", "k"] [] := T.d__law_cell.F.binds fun _ _ _ _ _ _ us hl => match us, hl with | [_, _], _ => rfl
theorem bn__law_draw (T : Txt K mg fa fd) : Binds K (fd 23) ["cell", "k", "limit"] [] := T.d__law_draw.F.binds fun _ _ _ _ _ _ us hl => match us, hl with | [_, _, _], _ => rfl
theorem bn__law_values (T : Txt K mg fa fd) : Binds K (fd 24) ["cell", "k", "many"] [] := T.d__law_values.F.binds fun _ _ _ _ _ _ us hl => match us, hl with | [_, _, _], _ => rfl
theorem bn__law_frame (T : Txt K mg fa fd) : Binds K (fd 25) ["cell"] [] := T.d__law_frame.F.binds fun _ _ _ _ _ _ us hl => match us, hl with | [_], _ => rfl
theorem bn__law_setting (T : Txt K mg fa fd) : Binds K (fd 26) ["cell", "plane"] [] := T.d__law_setting.F.binds fun _ _ _ _ _ _ us hl => match us, hl with | [_, _], _ => rfl
theorem bn__law_closed (T : Txt K mg fa fd) : Binds K (fd 28) ["values", "width"] [] := T.d__law_closed.F.binds fun _ _ _ _ _ _ us hl => match us, hl with | [_, _], _ => rfl
theorem bn__law_same (T : Txt K mg fa fd) : Binds K (fd 29) ["found", "due"] [] := T.d__law_same.F.binds fun _ _ _ _ _ _ us hl => match us, hl with | [_, _], _ => rfl
theorem bn__law_width (T : Txt K mg fa fd) : Binds K (fd 30) ["cell", "k"] [] := T.d__law_width.F.binds fun _ _ _ _ _ _ us hl => match us, hl with | [_, _], _ => rfl
theorem bn__law_right (T : Txt K mg fa fd) : Binds K (fd 31) ["cell"] [] := T.d__law_right.F.binds fun _ _ _ _ _ _ us hl => match us, hl with | [_], _ => rfl
theorem bn_law (T : Txt K mg fa fd) : Binds K (fd 32) ["script"] [] := T.d_law.F.binds fun _ _ _ _ _ _ us hl => match us, hl with | [_], _ => rfl
theorem kb_closed_0 (T : Txt K mg fa fd) : KBinds K (fd 20) ["frame", "setting", "widths"] ["widths", "setting", "frame"] kb_closed_0_g kb_closed_0_v := by
  refine kb_of T.d_closed.F (fun _ _ _ _ _ _ us ws hl => ?_) (fun {vs us zs ws} r1 r2 => ?_)
  · match us, ws, hl with | [], [w0, w1, w2], _ => rfl
  · exact kb_closed_0_rel r1 r2
end
section
variable {P : Program} {w : World} {K : PySem.W.Frag} {mg : Str → Option Value} {base : Heap} {fa : Nat → Addr} {fd : Nat → FuncData}
def g_is_within (ds : List Dt) (d : Dt) : Prop := ∃ i a b : Int, ds = [.int i, .int a, .int b] ∧ d = .bl (decide (a ≤ i) && decide (i ≤ b))
theorem ok_is_within (T : Txt K mg fa fd) : FnG P w K mg base CX0 1 (fa 7) (fd 7) ["value", "least", "most"] (spD g_is_within) := by
  refine fn_D T.d_is_within.F sc_is_within (fun ds d h => by obtain ⟨_, _, _, rfl, _⟩ := h; rfl) (fun cdv Γ below s B H vs ds d Q E hg hr e ra hd ret => ?_)
  obtain ⟨i, a, b, rfl, rfl⟩ := hd
  rcases ra with _ | ⟨r1, _ | ⟨r2, _ | ⟨r3, _ | _⟩⟩⟩
  cases r1; cases r2; cases r3
  refine ⟨_, (pss_one (ps_ret (pe_and (pe_cmpR op_isT (pe_typeOf rfl T.n_type (pv 0)) (pe_bltn (v := .ty "int") rfl T.n_int (by decide +kernel) rfl) (nomark _)) (pe_one (pe_chain op_le op_le (pv 1) (pv 0) (pv 2)))))), ?_⟩
  exact s_retE e (by walk_at "u_ev") (by simp [Dt.kind]) (fun v B1 H2 n1 rv => ret v B1 H2 n1 rv)

def g_is_tuple_of (ds : List Dt) (d : Dt) : Prop := ∃ (xs : List Dt) (n : Int), ds = [.tup xs, .int n] ∧ d = .bl (decide ((xs.length : Int) = n))
theorem ok_is_tuple_of (T : Txt K mg fa fd) : FnG P w K mg base CX0 1 (fa 8) (fd 8) ["value", "many"] (spD g_is_tuple_of) := by
  refine fn_D T.d_is_tuple_of.F sc_is_tuple_of (fun ds d h => by obtain ⟨_, _, rfl, _⟩ := h; rfl) (fun cdv Γ below s B H vs ds d Q E hg hr e ra hd ret => ?_)
  obtain ⟨xs, n, rfl, rfl⟩ := hd
  rcases ra with _ | ⟨r1, _ | ⟨r2, _ | _⟩⟩
  cases r2
  have hu := hr.units
  refine ⟨_, (pss_one (ps_ret (pe_and (pe_cmpR op_isT (pe_typeOf rfl T.n_type (pv 0)) (pe_bltn (v := .ty "tuple") rfl T.n_tuple (by decide +kernel) rfl) (nomark _)) (pe_one (pe_cmpR (k_eq (K := K) rfl hu) (pe_callB (k_len (K := K) rfl) rfl T.n_len (by decide +kernel) (pa_cons (pv 0) pa_nil)) (pv 1) (nomark _)))))), ?_⟩
  exact s_retE e (by walk_at "u_ev") (by simp [Dt.kind]) (fun v B1 H2 n1 rv => ret v B1 H2 n1 rv)

def FrOk (a b : Int) : Prop := 1 ≤ a ∧ a ≤ 3 ∧ 1 ≤ b ∧ b ≤ 3
def g_is_frame (ds : List Dt) (d : Dt) : Prop := ∃ a b : Int, ds = [eFr a b] ∧ FrOk a b ∧ d = .bl true
theorem ok_is_frame (T : Txt K mg fa fd) : FnG P w K mg base CX0 2 (fa 9) (fd 9) ["value"] (spD g_is_frame) := by
  refine fn_D T.d_is_frame.F sc_is_frame (fun ds d h => by obtain ⟨_, _, rfl, _⟩ := h; rfl) (fun cdv Γ below s B H vs ds d Q E hg hr e ra hd ret => ?_)
  obtain ⟨a, b, rfl, ⟨h1, h2, h3, h4⟩, rfl⟩ := hd
  rcases ra with _ | ⟨r1, _ | _⟩
  obtain ⟨tk, hc_MOST_UNKNOWNS⟩ := T.k_MOST_UNKNOWNS
  refine ⟨_, (pss_one (ps_ret (pe_and (pe_go (ok_is_tuple_of T) hg (hr.mono (by decide)) rfl T.d_is_tuple_of.at_ T.d_is_tuple_of.F.kp (bn_is_tuple_of T) pass0 (pa_cons (pv 0) (pa_cons pe_int pa_nil))) (pe_one (pe_callB (k_all (K := K) rfl rfl) rfl T.n_all (by decide +kernel) (pa_cons (pe_lc (own := [("item", 1)]) (g := (gName 1)) (tt := tYes) rfl sc_is_frame.nd (k_seq (K := K) rfl (pv 0)) (blkOk_by (N := ["value", "item"]) (sc := defScope s_is_frame) (by decide +kernel)) (fun _ _ _ _ _ => (pg_name (i := 1) sc_is_frame.nd rfl (by first | exact Or.inl rfl | exact Or.inr rfl))) (fun _ _ _ _ _ => pts_nil) (fun _ _ _ _ _ => (pe_go (ok_is_within T) hg (hr.mono (by decide)) rfl T.d_is_within.at_ T.d_is_within.F.kp (bn_is_within T) pass0 (pa_cons (pv 1) (pa_cons pe_int (pa_cons (pe_glob (v := .int 3) rfl hc_MOST_UNKNOWNS ⟨_, rfl⟩) pa_nil)))))) pa_nil)))))), ?_⟩
  refine s_retE e (x := .bl (decide (((([.int a, .int b] : List Dt).length : Nat) : Int) = 2) && [a, b].all fun q => decide (1 ≤ q) && decide (q ≤ 3))) (ev_and (by walk_at "u_ev") fun _ => ev_cb (ea_cons ?_ ea_nil) rl_all) ?_ (fun v B1 H2 n1 rv => ret v B1 H2 n1 rv)
  · refine q_lc1 (l := [a, b]) (enc := Dt.int) (f := fun q => Dt.bl (decide (1 ≤ q) && decide (q ≤ 3))) (by walk_at "u_ev") (Items.tup _) (by simp) (fun _ => rfl) (fun q v B1 hm hB rv => ?_)
    cases rv
    walk_at "u_ev"
  · simp [h1, h2, h3, h4]

def g_need_frame (ds : List Dt) (d : Dt) : Prop := ∃ a b : Int, ds = [eFr a b] ∧ FrOk a b ∧ d = .non
theorem ok_need_frame (T : Txt K mg fa fd) : FnG P w K mg base CX0 3 (fa 10) (fd 10) ["frame"] (spD g_need_frame) := by
  refine fn_D T.d_need_frame.F sc_need_frame (fun ds d h => by obtain ⟨_, _, rfl, _⟩ := h; rfl) (fun cdv Γ below s B H vs ds d Q E hg hr e ra hd ret => ?_)
  obtain ⟨a, b, rfl, hf, rfl⟩ := hd
  rcases ra with _ | ⟨r1, _ | _⟩
  refine ⟨_, (pss_one (ps_if (pt_not (pt_val (pe_go (ok_is_frame T) hg (hr.mono (by decide)) rfl T.d_is_frame.at_ T.d_is_frame.F.kp (bn_is_frame T) pass0 (pa_cons (pv 0) pa_nil)))) (pss_one ps_never) pss_nil)), ?_⟩
  refine s_if (b := !true) e (ec_not (ec_v (ev_call (by walk_at "u_ea") ⟨a, b, rfl, hf, rfl⟩))) (fun hb => nomatch hb) (fun _ H1 u1 => ?_)
  exact ret _ B H1 u1.new .non

def g_is_row (ds : List Dt) (d : Dt) : Prop := ∃ (ns : List Int) (n : Int), ds = [eI ns, .int n] ∧ (ns.length : Int) = n ∧ ns.length < 1000 ∧ d = .bl true
theorem ok_is_row (T : Txt K mg fa fd) : FnG P w K mg base CX0 1 (fa 13) (fd 13) ["value", "many"] (spD g_is_row) := by
  refine fn_D T.d_is_row.F sc_is_row (fun ds d h => by obtain ⟨_, _, rfl, _⟩ := h; rfl) (fun cdv Γ below s B H vs ds d Q E hg hr e ra hd ret => ?_)
  obtain ⟨ns, n, rfl, hn, hl, rfl⟩ := hd
  rcases ra with _ | ⟨r1, _ | ⟨r2, _ | _⟩⟩
  cases r2
  have hu := hr.units
  refine ⟨_, (pss_one (ps_ret (pe_and (pe_cmpR op_isT (pe_typeOf rfl T.n_type (pv 0)) (pe_bltn (v := .ty "list") rfl T.n_list (by decide +kernel) rfl) (nomark _)) (pe_and (pe_cmpR (k_eq (K := K) rfl hu) (pe_callB (k_len (K := K) rfl) rfl T.n_len (by decide +kernel) (pa_cons (pv 0) pa_nil)) (pv 1) (nomark _)) (pe_one (pe_callB (k_all (K := K) rfl rfl) rfl T.n_all (by decide +kernel) (pa_cons (pe_lc (own := [("item", 2)]) (g := (gName 2)) (tt := tYes) rfl sc_is_row.nd (k_seq (K := K) rfl (pv 0)) (blkOk_by (N := ["value", "many", "item"]) (sc := defScope s_is_row) (by decide +kernel)) (fun _ _ _ _ _ => (pg_name (i := 2) sc_is_row.nd rfl (by first | exact Or.inl rfl | exact Or.inr rfl))) (fun _ _ _ _ _ => pts_nil) (fun _ _ _ _ _ => (pe_cmpR op_isT (pe_typeOf rfl T.n_type (pv 2)) (pe_bltn (v := .ty "int") rfl T.n_int (by decide +kernel) rfl) (nomark _)))) pa_nil))))))), ?_⟩
  refine s_retE e (ev_and (by walk_at "u_ev") fun _ => ev_and (by walk_at "u_ev") fun _ => ev_cb (ea_cons (q_lc1 (l := ns) (enc := Dt.int) (f := fun q => Dt.bl (decide ((Dt.int q).kind = "int"))) (by walk_at "u_ev") (Items.lst _) (by omega) (fun _ => rfl) (fun q v B1 hm hB rv => ?_)) ea_nil) rl_all) ?_ (fun v B1 H2 n1 rv => ret v B1 H2 n1 rv)
  · cases rv
    walk_at "u_ev"
  · simp [Dt.kind, hn]

def SetOk (a b : Int) (p q : List Int) : Prop := (p.length : Int) = a ∧ (q.length : Int) = b ∧ FrOk a b
def g_is_setting (ds : List Dt) (d : Dt) : Prop := ∃ (a b : Int) (p q : List Int), ds = [eFr a b, eSet p q] ∧ SetOk a b p q ∧ d = .bl true
theorem ok_is_setting (T : Txt K mg fa fd) : FnG P w K mg base CX0 4 (fa 14) (fd 14) ["frame", "value"] (spD g_is_setting) := by
  refine fn_D T.d_is_setting.F sc_is_setting (fun ds d h => by obtain ⟨_, _, _, _, rfl, _⟩ := h; rfl) (fun cdv Γ below s B H vs ds d Q E hg hr e ra hd ret => ?_)
  obtain ⟨a, b, p, q, rfl, ⟨h1, h2, hf⟩, rfl⟩ := hd
  rcases ra with _ | ⟨r1, _ | ⟨r2, _ | _⟩⟩
  have hl1 : p.length < 1000 := by have := hf.2.1; omega
  have hl2 : q.length < 1000 := by have := hf.2.2.2; omega
  refine ⟨_, (pss_cons (ps_expr (pe_go (ok_need_frame T) hg (hr.mono (by decide)) rfl T.d_need_frame.at_ T.d_need_frame.F.kp (bn_need_frame T) pass0 (pa_cons (pv 0) pa_nil))) (pss_one (ps_ret (pe_and (pe_go (ok_is_tuple_of T) hg (hr.mono (by decide)) rfl T.d_is_tuple_of.at_ T.d_is_tuple_of.F.kp (bn_is_tuple_of T) pass0 (pa_cons (pv 1) (pa_cons pe_int pa_nil))) (pe_and (pe_go (ok_is_row T) hg (hr.mono (by decide)) rfl T.d_is_row.at_ T.d_is_row.F.kp (bn_is_row T) pass0 (pa_cons (pe_ix (k_ix (K := K) rfl) (pv 1) pe_int (fun _ _ => rfl)) (pa_cons (pe_ix (k_ix (K := K) rfl) (pv 0) pe_int (fun _ _ => rfl)) pa_nil))) (pe_one (pe_go (ok_is_row T) hg (hr.mono (by decide)) rfl T.d_is_row.at_ T.d_is_row.F.kp (bn_is_row T) pass0 (pa_cons (pe_ix (k_ix (K := K) rfl) (pv 1) pe_int (fun _ _ => rfl)) (pa_cons (pe_ix (k_ix (K := K) rfl) (pv 0) pe_int (fun _ _ => rfl)) pa_nil))))))))), ?_⟩
  refine s_seq (s_drop e (ev_call (by walk_at "u_ea") ⟨a, b, rfl, hf, rfl⟩) fun H1 u1 => ?_)
  walk_at "u_n"
  refine s_retE u1.sub (ev_and (ev_call (by walk_at "u_ea") ⟨_, _, rfl, rfl⟩) fun _ => ev_and (ev_call (by walk_at "u_ea") ⟨p, a, rfl, h1, hl1, rfl⟩) fun _ => ev_call (by walk_at "u_ea") ⟨q, b, rfl, h2, hl2, rfl⟩) ?_ (fun v B1 H2 n1 rv => ret v B1 H2 (u1.new.trans n1) rv)
  rfl

def g_need_setting (ds : List Dt) (d : Dt) : Prop := ∃ (a b : Int) (p q : List Int), ds = [eFr a b, eSet p q] ∧ SetOk a b p q ∧ d = .non
theorem ok_need_setting (T : Txt K mg fa fd) : FnG P w K mg base CX0 5 (fa 15) (fd 15) ["frame", "setting"] (spD g_need_setting) := by
  refine fn_D T.d_need_setting.F sc_need_setting (fun ds d h => by obtain ⟨_, _, _, _, rfl, _⟩ := h; rfl) (fun cdv Γ below s B H vs ds d Q E hg hr e ra hd ret => ?_)
  obtain ⟨a, b, p, q, rfl, hf, rfl⟩ := hd
  rcases ra with _ | ⟨r1, _ | ⟨r2, _ | _⟩⟩
  refine ⟨_, (pss_one (ps_if (pt_not (pt_val (pe_go (ok_is_setting T) hg (hr.mono (by decide)) rfl T.d_is_setting.at_ T.d_is_setting.F.kp (bn_is_setting T) pass0 (pa_cons (pv 0) (pa_cons (pv 1) pa_nil))))) (pss_one ps_never) pss_nil)), ?_⟩
  refine s_if (b := !true) e (ec_not (ec_v (ev_call (by walk_at "u_ea") ⟨a, b, p, q, rfl, hf, rfl⟩))) (fun hb => nomatch hb) (fun _ H1 u1 => ?_)
  exact ret _ B H1 u1.new .non

def WdOk (a b : Int) : Prop := 0 ≤ a ∧ a ≤ 40 ∧ 0 ≤ b ∧ b ≤ 40
def g_need_widths (ds : List Dt) (d : Dt) : Prop := ∃ a b : Int, ds = [eFr a b] ∧ WdOk a b ∧ d = .non
theorem ok_need_widths (T : Txt K mg fa fd) : FnG P w K mg base CX0 2 (fa 16) (fd 16) ["widths"] (spD g_need_widths) := by
  refine fn_D T.d_need_widths.F sc_need_widths (fun ds d h => by obtain ⟨_, _, rfl, _⟩ := h; rfl) (fun cdv Γ below s B H vs ds d Q E hg hr e ra hd ret => ?_)
  obtain ⟨a, b, rfl, ⟨h1, h2, h3, h4⟩, rfl⟩ := hd
  rcases ra with _ | ⟨r1, _ | _⟩
  obtain ⟨tk, hc_MOST_WIDTH⟩ := T.k_MOST_WIDTH
  refine ⟨_, (pss_one (ps_if (pt_not (PW.pt (pw_and (pt_val (pe_go (ok_is_tuple_of T) hg (hr.mono (by decide)) rfl T.d_is_tuple_of.at_ T.d_is_tuple_of.F.kp (bn_is_tuple_of T) pass0 (pa_cons (pv 0) (pa_cons pe_int pa_nil)))) (pw_and1 (pt_val (pe_callB (k_all (K := K) rfl rfl) rfl T.n_all (by decide +kernel) (pa_cons (pe_lc (own := [("item", 1)]) (g := (gName 1)) (tt := tYes) rfl sc_need_widths.nd (k_seq (K := K) rfl (pv 0)) (blkOk_by (N := ["widths", "item"]) (sc := defScope s_need_widths) (by decide +kernel)) (fun _ _ _ _ _ => (pg_name (i := 1) sc_need_widths.nd rfl (by first | exact Or.inl rfl | exact Or.inr rfl))) (fun _ _ _ _ _ => pts_nil) (fun _ _ _ _ _ => (pe_go (ok_is_within T) hg (hr.mono (by decide)) rfl T.d_is_within.at_ T.d_is_within.F.kp (bn_is_within T) pass0 (pa_cons (pv 1) (pa_cons pe_int (pa_cons (pe_glob (v := .int 40) rfl hc_MOST_WIDTH ⟨_, rfl⟩) pa_nil)))))) pa_nil))))))) (pss_one ps_never) pss_nil)), ?_⟩
  refine s_if (b := !(decide (((([.int a, .int b] : List Dt).length : Nat) : Int) = 2) && [a, b].all fun q => decide (0 ≤ q) && decide (q ≤ 40))) e (ec_not (ec_and (by walk_at "u_ec") fun _ => ec_v (ev_cb (ea_cons ?_ ea_nil) rl_all))) (fun z => ?_) (fun _ H1 u1 => ?_)
  · refine q_lc1 (l := [a, b]) (enc := Dt.int) (f := fun q => Dt.bl (decide (0 ≤ q) && decide (q ≤ 40))) (by walk_at "u_ev") (Items.tup _) (by simp) (fun _ => rfl) (fun q v B1 hm hB rv => ?_)
    cases rv
    walk_at "u_ev"
  · simp [h1, h2, h3, h4] at z
  · exact ret _ B H1 u1.new .non

def plainR (ns : List Int) : List Int := ns.map fun v => v - minL ns
def g_plain_row (as ds : List Dt) : Prop := ∃ ns : List Int, as = [eI ns] ∧ ns ≠ [] ∧ ns.length < 1000 ∧ ds = (plainR ns).map .int
theorem ok_plain_row (T : Txt K mg fa fd) : FnG P w K mg base CX0 1 (fa 17) (fd 17) ["values"] (spL g_plain_row) := by
  refine fn_L T.d_plain_row.F sc_plain_row (fun ds d h => by obtain ⟨_, rfl, _⟩ := h; rfl) (fun cdv Γ below s B H vs as ds Q E hg hr e ra hd ret => ?_)
  obtain ⟨ns, rfl, hn, hl, rfl⟩ := hd
  rcases ra with _ | ⟨r1, _ | _⟩
  refine ⟨_, (pss_cons (ps_set (i := 1) sc_plain_row.nd rfl (by first | exact Or.inl rfl | exact Or.inr rfl) (pe_callB (k_min (K := K) rfl rfl) rfl T.n_min (by decide +kernel) (pa_cons (pe_lc (own := [("item", 2)]) (g := (gName 2)) (tt := tYes) rfl sc_plain_row.nd (k_seq (K := K) rfl (pv 0)) (blkOk_by (N := ["values", "least", "item", "value"]) (sc := defScope s_plain_row) (by decide +kernel)) (fun _ _ _ _ _ => (pg_name (i := 2) sc_plain_row.nd rfl (by first | exact Or.inl rfl | exact Or.inr rfl))) (fun _ _ _ _ _ => pts_nil) (fun _ _ _ _ _ => (pe_callTy c_int rfl T.n_int (by decide +kernel) (pa_cons (pv 2) pa_nil)))) pa_nil))) (pss_one (ps_ret (pe_lc (own := [("value", 3)]) (g := (gName 3)) (tt := tYes) rfl sc_plain_row.nd (k_seq (K := K) rfl (pv 0)) (blkOk_by (N := ["values", "least", "item", "value"]) (sc := defScope s_plain_row) (by decide +kernel)) (fun _ _ _ _ _ => (pg_name (i := 3) sc_plain_row.nd rfl (by first | exact Or.inl rfl | exact Or.inr rfl))) (fun _ _ _ _ _ => pts_nil) (fun _ _ _ _ _ => (pe_op op_sub (pv 3) (pv 1))))))), ?_⟩
  refine s_seq (s_asg e (d := .int (minL (ns.map fun q => q))) (ev_cb (ea_cons (q_lc1 (l := ns) (enc := Dt.int) (f := Dt.int) (by walk_at "u_ev") (Items.lst _) (by omega) (fun _ => rfl) (fun q v B1 hm hB rv => ?_)) ea_nil) (rl_min hn)) fun v1 B1 H1 n1 r1' => ?_)
  · cases rv
    walk_at "u_ev"
  rw [List.map_id'] at r1'
  cases r1'
  walk_at "u_n"
  refine s_retL n1.sub (el_lc1 (l := ns) (enc := Dt.int) (f := fun q => Dt.int (q - minL ns)) (by walk_at "u_ev") (Items.lst _) (by omega) (fun _ => rfl) (fun q v B1 hm hB rv => ?_)) ?_ (fun p us B2 H2 n2 o r2 => ret p us B2 H2 (n1.trans n2) (n1.own o) r2)
  · cases rv
    walk_at "u_ev"
  · rw [plainR, List.map_map]; rfl

/-- a tuple of two lists of one's own -/
structure Pair2 (H0 B H : Hp) (t l m : Addr) (us ws : List V) : Prop where
  t0 : H0 t = none
  tb : B t = none
  th : H t = some (.tup [.ref l, .ref m])
  ne : l ≠ m
  lo : Own H0 B H l us
  mo : Own H0 B H m ws
def spPlain : Sp := fun vs H Q _ => ∃ (B : Hp) (a b : Int) (p q : List Int), Ex B H ∧ RA B vs [eFr a b, eSet p q] ∧ SetOk a b p q ∧
  ∀ t l m B2 H2, New B H B2 H2 → Pair2 H B2 H2 t l m ((plainR p).map V.int) ((plainR q).map V.int) → Q (.ref t) H2
theorem ok_plain (T : Txt K mg fa fd) : FnG P w K mg base CX0 6 (fa 18) (fd 18) ["frame", "setting"] spPlain := by
  refine fn_S T.d_plain.F sc_plain (fun vs H Q E h => by obtain ⟨B, a, b, p, q, _, ra, _⟩ := h; rw [ra.len]; rfl) (fun cdv Γ below s H vs Q E hg hr h => ?_)
  obtain ⟨B, a, b, p, q, e, ra, hf, ret⟩ := h
  rcases ra with _ | ⟨r1, _ | ⟨r2, _ | _⟩⟩
  have hl1 : p.length < 1000 := by have := hf.1; have := hf.2.2.2.1; omega
  have hl2 : q.length < 1000 := by have := hf.2.1; have := hf.2.2.2.2.2; omega
  have hn1 : p ≠ [] := fun z => by have := hf.1; have := hf.2.2.1; rw [z] at *; simp at *; omega
  have hn2 : q ≠ [] := fun z => by have := hf.2.1; have := hf.2.2.2.2.1; rw [z] at *; simp at *; omega
  refine ⟨_, (pss_cons (ps_expr (pe_go (ok_need_setting T) hg (hr.mono (by decide)) rfl T.d_need_setting.at_ T.d_need_setting.F.kp (bn_need_setting T) pass0 (pa_cons (pv 0) (pa_cons (pv 1) pa_nil)))) (pss_cons (ps_asg (pv 1) (pg_tup rfl (pgs_cons (pg_name (i := 2) sc_plain.nd rfl (by first | exact Or.inl rfl | exact Or.inr rfl)) (pgs_cons (pg_name (i := 3) sc_plain.nd rfl (by first | exact Or.inl rfl | exact Or.inr rfl)) pgs_nil)))) (pss_one (ps_ret (pe_tup (pa_cons (pe_go (ok_plain_row T) hg (hr.mono (by decide)) rfl T.d_plain_row.at_ T.d_plain_row.F.kp (bn_plain_row T) pass0 (pa_cons (pv 2) pa_nil)) (pa_cons (pe_go (ok_plain_row T) hg (hr.mono (by decide)) rfl T.d_plain_row.at_ T.d_plain_row.F.kp (bn_plain_row T) pass0 (pa_cons (pv 3) pa_nil)) pa_nil))))))), ?_⟩
  refine s_seq (s_drop e (ev_call (by walk_at "u_ea") ⟨a, b, p, q, rfl, hf, rfl⟩) fun H1 u1 => ?_)
  walk_at "u_n"
  refine s_seq (s_asg2 u1.sub (by walk_at "u_ev") fun v w B1 H2 n1 rv rw => ?_)
  walk_at "u_n"
  refine (el_call (B := B1) (xs := [eI p]) (ds := (plainR p).map .int) (by walk_at "u_ea") ⟨p, rfl, hn1, hl1, rfl⟩) H2 n1.sub _ fun l us B2 H3 n2 lo rl => ?_
  refine (el_call (B := B2) (xs := [eI q]) (ds := (plainR q).map .int) (by walk_at "u_ea") ⟨q, rfl, hn2, hl2, rfl⟩) H3 n2.sub _ fun m ws B3 H4 n3 mo rm => ?_
  refine ⟨by show 2 ≤ sizeLine; decide, fun t ht => ?_⟩
  have e1 := rl.ints_inv
  have e2 := rm.ints_inv
  subst e1
  subst e2
  have N3 := ((u1.new.trans n1).trans n2).trans n3
  have lo3 := lo.step n3
  have hb : B3 t = none := Evl.fresh_back N3.sub ht
  have nl : t ≠ l := fun z => by rw [z, lo3.h] at ht; cases ht
  have nm : t ≠ m := fun z => by rw [z, mo.h] at ht; cases ht
  refine ret t l m B3 _ ⟨N3.ext, Evl.Ex.mut N3.sub hb, Evl.Ex.mut N3.heap (Evl.fresh_back N3.heap ht), N3.fresh⟩ ⟨Evl.fresh_back N3.heap ht, hb, upd_same, ?_, ⟨?_, ?_, ?_⟩, ⟨?_, ?_, ?_⟩⟩
  · exact fun z => by have := lo.h; rw [z] at this; have h2 := mo.h0; rw [this] at h2; cases h2
  · exact Evl.fresh_back (u1.heap.trans n1.heap) lo.h0
  · exact lo3.b
  · rw [upd_ne nl.symm]; exact lo3.h
  · exact Evl.fresh_back ((u1.heap.trans n1.heap).trans n2.heap) mo.h0
  · exact mo.b
  · rw [upd_ne nm.symm]; exact mo.h
theorem pair_data {H0 B H : Hp} {t l m : Addr} {p q : List Int} (e : Ex B H) (k : Pair2 H0 B H t l m (p.map V.int) (q.map V.int)) :
    ∃ B', Ex B B' ∧ Ex B' H ∧ R B' (.ref t) (eSet p q) ∧ (∀ a, B a = none → H0 a ≠ none → B' a = none) := by
  have ht : t ≠ l := fun z => by have h := k.th; rw [z, k.lo.h] at h; cases h
  have hm : t ≠ m := fun z => by have h := k.th; rw [z, k.mo.h] at h; cases h
  refine ⟨upd (upd (upd B t (.tup [.ref l, .ref m])) l (.lst (p.map V.int))) m (.lst (q.map V.int)), ?_, ?_, ?_, ?_⟩
  · refine (Evl.Ex.new k.tb).trans ((Evl.Ex.new ?_).trans (Evl.Ex.new ?_))
    · rw [upd_ne ht.symm]; exact k.lo.b
    · rw [upd_ne k.ne.symm, upd_ne hm.symm]; exact k.mo.b
  · intro a u h
    by_cases a1 : a = m
    · rw [a1, upd_same] at h; rw [a1, ← h]; exact k.mo.h
    · rw [upd_ne a1] at h
      by_cases a2 : a = l
      · rw [a2, upd_same] at h; rw [a2, ← h]; exact k.lo.h
      · rw [upd_ne a2] at h
        by_cases a3 : a = t
        · rw [a3, upd_same] at h; rw [a3, ← h]; exact k.th
        · rw [upd_ne a3] at h; exact e a u h
  · refine .tup (by rw [upd_ne hm, upd_ne ht, upd_same]) (.cons (.lst (by rw [upd_ne k.ne, upd_same]) (RA.ints _)) (.cons (.lst upd_same (RA.ints _)) .nil))
  · intro a h1 h2
    have a1 : a ≠ m := fun z => by rw [z] at h2; exact h2 k.mo.h0
    have a2 : a ≠ l := fun z => by rw [z] at h2; exact h2 k.lo.h0
    have a3 : a ≠ t := fun z => by rw [z] at h2; exact h2 k.t0
    rw [upd_ne a1, upd_ne a2, upd_ne a3]; exact h1
theorem pair_new {B H B2 H2 : Hp} {t l m : Addr} {p q : List Int} (n : New B H B2 H2) (k : Pair2 H B2 H2 t l m (p.map V.int) (q.map V.int)) : ∃ B', New B H B' H2 ∧ R B' (.ref t) (eSet p q) := by
  obtain ⟨B', h1, h2, h3, h4⟩ := pair_data n.sub k
  exact ⟨B', ⟨n.ext.trans h1, h2, n.heap, fun a x y => h4 a (n.fresh a x y) y⟩, h3⟩
theorem ev_plain {σ : L2.St} {B : Hp} {tl : TA} {E : XK} {a b : Int} {p q : List Int} (h : EvRA tl σ B [eFr a b, eSet p q]) (hf : SetOk a b p q) : EvR (tCall spPlain [] E tl) σ B (eSet (plainR p) (plainR q)) := fun H1 e Q k =>
  h H1 e _ fun vs B2 H2 n ra => ⟨B2, a, b, p, q, n.sub, by rw [List.append_nil]; exact ra, hf, fun t l m B3 H3 n3 pr => by
    obtain ⟨B', n', r'⟩ := pair_new n3 pr
    exact k _ B' H3 (n.trans n') r'⟩
theorem go_plain {σ : L2.St} {B H : Hp} {tl : TA} {E : XK} {a b : Int} {p q : List Int} {D : Ends} {i : Nat} (e : Ex B H) (h : EvRA tl σ B [eFr a b, eSet p q]) (hf : SetOk a b p q)
    (k : ∀ t l m B2 H2, New B H B2 H2 → Pair2 H B2 H2 t l m ((plainR p).map V.int) ((plainR q).map V.int) → D.nx (σ.set i (some (.ref t))) H2) : tAsg (tCall spPlain [] E tl) (gName i) D σ H :=
  h H e _ fun vs B2 H2 n ra => ⟨B2, a, b, p, q, n.sub, by rw [List.append_nil]; exact ra, hf, fun t l m B3 H3 n3 pr =>
    k t l m B3 H3 (n.trans n3) ⟨Evl.fresh_back n.heap pr.t0, pr.tb, pr.th, pr.ne, n.own pr.lo, n.own pr.mo⟩⟩
theorem ev_plainK {σ : L2.St} {B : Hp} {tl tk : TA} {E : XK} {gV : List V → List V → List V} {gD : List Dt → List Dt → List Dt} {xs ys : List Dt} {a b : Int} {p q : List Int} (h : EvRA tl σ B xs) (hk : EvRA tk σ B ys) (rel : ∀ B vs ws as bs, RA B vs as → RA B ws bs → RA B (gV vs ws) (gD as bs))
    (hg : gD xs ys = [eFr a b, eSet p q]) (hf : SetOk a b p q) : EvR (tCallK spPlain gV E tl tk) σ B (eSet (plainR p) (plainR q)) := fun H1 e Q k =>
  h H1 e _ fun vs B2 H2 n ra => (hk.mono n.ext) H2 n.sub _ fun ws B3 H3 n2 rb => ⟨B3, a, b, p, q, n2.sub, by rw [← hg]; exact rel B3 vs ws xs ys (ra.mono n2.ext) rb, hf, fun t l m B4 H4 n3 pr => by
    obtain ⟨B', n', r'⟩ := pair_new n3 pr
    exact k _ B' H4 ((n.trans n2).trans n') r'⟩

def g_closed_row (as ds : List Dt) : Prop := ∃ (ns : List Int) (w : Int), as = [eI ns, .int w] ∧ ns ≠ [] ∧ ns.length < 500 ∧ 0 ≤ w ∧ ds = (cloR w ns).map .int
theorem ok_closed_row (T : Txt K mg fa fd) : FnG P w K mg base CX0 1 (fa 19) (fd 19) ["values", "width"] (spL g_closed_row) := by
  refine fn_L T.d_closed_row.F sc_closed_row (fun ds d h => by obtain ⟨_, _, rfl, _⟩ := h; rfl) (fun cdv Γ below s B H vs as ds Q E hg hr e ra hd ret => ?_)
  obtain ⟨ns, wd, rfl, hn, hl, hw, rfl⟩ := hd
  rcases ra with _ | ⟨r1, _ | ⟨r2, _ | _⟩⟩
  cases r2
  have hu := hr.units
  refine ⟨_, (pss_cons (ps_set (i := 2) sc_closed_row.nd rfl (by first | exact Or.inl rfl | exact Or.inr rfl) (pe_callB (k_sortedI (K := K) rfl) rfl T.n_sorted (by decide +kernel) (pa_cons (pe_lc (own := [("item", 3)]) (g := (gName 3)) (tt := tYes) rfl sc_closed_row.nd (k_seq (K := K) rfl (pv 0)) (blkOk_by (N := ["values", "width", "ordered", "item", "places", "before", "behind", "value"]) (sc := defScope s_closed_row) (by decide +kernel)) (fun _ _ _ _ _ => (pg_name (i := 3) sc_closed_row.nd rfl (by first | exact Or.inl rfl | exact Or.inr rfl))) (fun _ _ _ _ _ => pts_nil) (fun _ _ _ _ _ => (pe_callTy c_int rfl T.n_int (by decide +kernel) (pa_cons (pv 3) pa_nil)))) pa_nil))) (pss_cons (ps_set (i := 4) sc_closed_row.nd rfl (by first | exact Or.inl rfl | exact Or.inr rfl) (pe_disp (pps_cons (pe_ix (k_ix (K := K) rfl) (pv 2) pe_int (fun _ _ => rfl)) pe_int pps_nil) rfl rfl (by simp) (by decide))) (pss_cons (ps_for PassesOwn.never rfl (k_zip (K := K) rfl rfl T.n_zip (pa_cons (pv 2) (pa_cons (pe_slice (k_slice (K := K) rfl) (pv 2) (po_some pe_int) po_none) pa_nil))) (pg_tup rfl (pgs_cons (pg_name (i := 5) sc_closed_row.nd rfl (by first | exact Or.inl rfl | exact Or.inr rfl)) (pgs_cons (pg_name (i := 6) sc_closed_row.nd rfl (by first | exact Or.inl rfl | exact Or.inr rfl)) pgs_nil))) (pss_one (ps_dput (unit1 hu) (pv 4) (pv 6) (pe_op op_addA (pe_dget (unit1 hu) (pv 4) (pv 5) (fun _ _ => rfl)) (pe_callB (c_min rfl) rfl T.n_min (by decide +kernel) (pa_cons (pe_callTy c_int rfl T.n_int (by decide +kernel) (pa_cons (pe_op op_sub (pv 6) (pv 5)) pa_nil)) (pa_cons (pe_op op_addA (pv 1) pe_int) pa_nil)))) rfl))) (pss_one (ps_ret (pe_lc (own := [("value", 7)]) (g := (gName 7)) (tt := tYes) rfl sc_closed_row.nd (k_seq (K := K) rfl (pv 0)) (blkOk_by (N := ["values", "width", "ordered", "item", "places", "before", "behind", "value"]) (sc := defScope s_closed_row) (by decide +kernel)) (fun _ _ _ _ _ => (pg_name (i := 7) sc_closed_row.nd rfl (by first | exact Or.inl rfl | exact Or.inr rfl))) (fun _ _ _ _ _ => pts_nil) (fun _ _ _ _ _ => (pe_dget (unit1 hu) (pv 4) (pv 7) (fun _ _ => rfl))))))))), ?_⟩
  refine s_seq (s_sortedI (ns := ns) e (EvR.is (q_lc1 (l := ns) (enc := Dt.int) (f := Dt.int) (by walk_at "u_ev") (Items.lst _) (by omega) (fun _ => rfl) (fun q v B1 hm hB rv => ?_)) rfl) fun o v1 B1 H1 hp hs n1 r1' => ?_)
  · cases rv
    walk_at "u_ev"
  have hm : ∀ x, x ∈ o ↔ x ∈ ns := fun x => hp.mem_iff
  have hlen := hp.length_eq
  obtain ⟨o0, os, ho⟩ := List.exists_cons_of_ne_nil (show o ≠ [] from fun z => by rw [z] at hlen; exact hn (List.length_eq_zero_iff.mp hlen.symm))
  have h0 : o[0]? = some o0 := by rw [ho]; rfl
  walk_at "u_n"
  refine s_seq (s_disp (a := o0) (c := 0) n1.sub (ev_op (ev_v rfl r1') ev_i (rv_ixL (by rw [ho]; exact atI_ints (f := o0 :: os) (i := 0) (by omega) (by rw [List.length_cons]; omega)))) ev_i fun p B2 H2 n2 ok => ?_)
  walk_at "u_n"
  have N2 := n1.trans n2
  have r1b := r1'.mono n2.ext
  have r0b := (r1.mono n1.ext).mono n2.ext
  have okH : OwnK H B2 H2 p [(.inl o0, .int 0)] := ⟨fresh_back n1.heap ok.h0, ok.b, ok.h⟩
  refine s_seq (s_zip (K := K) (ns := o) (ms := o.drop 1) n2.sub (ev_v rfl r1b) (ev_sl1 (ev_v rfl r1b)) (by rw [List.length_drop]; omega)
    (fun B3 H3 i σ' H' => ∃ v0 v1 v2 v5 v6 v7 kvs, σ' = [some v0, some (.int wd), some v2, v1, some (.ref p), v5, v6, v7] ∧ R B2 v0 (eI ns) ∧ Ex B3 H' ∧ Ex H H' ∧ Ex B2 B3 ∧ OwnK H B3 H' p kvs ∧ kvs.length ≤ i + 1 ∧ ∀ j ≤ i, ∀ x, o[j]? = some x → valV kvs (.inl x) = some (.int (clo wd ns x)))
    ?_ ?_ ?_ ?_)
  · intro B3 H3 n3
    refine ⟨_, _, _, _, _, _, _, rfl, r0b, n3.sub, N2.heap.trans n3.heap, n3.ext, ⟨okH.h0, n3.fresh p okH.b (by rw [okH.h]; simp), n3.heap _ _ okH.h⟩, by simp, fun j hj x hx => ?_⟩
    obtain rfl : j = 0 := by omega
    rw [h0] at hx; cases hx
    rw [clo_first hm hs h0]
    exact valV_pos rfl
  · rintro B3 H3 i σ' H' ⟨_, _, _, _, _, _, _, rfl, _, h, _⟩
    exact h
  · rintro B3 H3 i x y TT σ' H' n3 hx hy ⟨v0, v1, v2, v5, v6, v7, kvs, rfl, rv0, e3, eH, e23, okp, hk, inv⟩ hT
    refine g_tup2 ?_
    walk_at "u_n"
    have hy2 : o[i + 1]? = some y := by rw [List.getElem?_drop] at hy; rw [Nat.add_comm]; exact hy
    have hpT : p ≠ TT := fun z => by have := okp.h; rw [z, hT] at this; cases this
    have e4 : Ex B3 (upd H' TT (.tup [.int x, .int y])) := e3.trans (Evl.Ex.new hT)
    have ok4 : OwnK H B3 (upd H' TT (.tup [.int x, .int y])) p kvs := ⟨okp.h0, okp.b, by rw [upd_ne hpT]; exact okp.h⟩
    have il : i < o.length := (List.getElem?_eq_some_iff.mp hx).1
    refine s_dput (c := clo wd ns y) (a := y) (kvs := kvs) e4 ok4 rfl (EvR.is (ev_op (ev_dget rfl upd_same (by walk_at "u_ev") (inv i (Nat.le_refl _) x hx)) (ev_cb (by walk_at "u_ea") rl_min2) (rv_inl rv_add)) ?_) (fun _ _ => by walk_at "u_ev") (by omega) (fun H5 e5 _ eH5 ok5 => ?_) (eH.trans (Evl.Ex.new hT))
    · rw [clo_next hw hm hs hx hy2]
      congr 2
      split <;> omega
    · refine ⟨_, _, _, _, _, _, _, rfl, rv0, e5, eH5, e23, ok5, ?_, fun j hj z hz => ?_⟩
      · have := length_putK kvs (.inl y) (.int (clo wd ns y))
        omega
      · rw [valV_put]
        by_cases hzy : z = y
        · subst hzy; rw [if_pos rfl]
        · rw [if_neg (fun q => hzy (by cases q; rfl))]
          refine inv j ?_ z hz
          rcases Nat.lt_or_eq_of_le hj with q | q
          · omega
          · subst q; rw [hy2] at hz; cases hz; exact absurd rfl hzy
  · rintro B3 H3 σ' H' n3 ⟨v0, v1, v2, v5, v6, v7, kvs, rfl, rv0, e3, eH, e23, okp, hk, inv⟩
    walk_at "u_n"
    have N3 : New B H B3 H' := ⟨N2.ext.trans e23, e3, eH, fun a z1 z2 => by
      have := N2.fresh a z1 z2
      exact n3.fresh a this fun z3 => by
        cases q : H a with
        | none => exact z2 q
        | some u => rw [N2.heap a u q] at z3; cases z3⟩
    have N4 := N3.giveK okp
    have e5 : Ex B3 (upd B3 p (.dK kvs)) := Evl.Ex.new okp.b
    have dlen : (o.drop 1).length + 1 = o.length := by rw [List.length_drop, ho, List.length_cons]; omega
    refine s_retL N4.sub (el_lc1 (l := ns) (enc := Dt.int) (f := fun q => Dt.int (clo wd ns q)) (ev_v rfl ((rv0.mono e23).mono e5)) (Items.lst _) (by omega) (fun _ => rfl) (fun q v B5 hmm hB rv => ?_)) ?_ (fun p2 us B6 H6 n6 o6 r6 => ret p2 us B6 H6 (N4.trans n6) (N4.own o6) r6)
    · cases rv
      obtain ⟨j, hj⟩ := List.mem_iff_getElem?.mp ((hm q).mpr hmm)
      have jl := (List.getElem?_eq_some_iff.mp hj).1
      exact ev_dget rfl (hB _ _ upd_same) (ev_v rfl (.int _)) (inv j (by omega) q hj)
    · rw [cloR, List.map_map]; rfl

def spClosed : Sp := fun vs H Q _ => ∃ (B : Hp) (a b c d : Int) (p q : List Int), Ex B H ∧ RA B vs [eFr a b, eSet p q, eFr c d] ∧ SetOk a b p q ∧ WdOk c d ∧
  ∀ t l m B2 H2, New B H B2 H2 → Pair2 H B2 H2 t l m ((cloR c p).map V.int) ((cloR d q).map V.int) → Q (.ref t) H2
theorem ok_closed (T : Txt K mg fa fd) : FnG P w K mg base CX0 6 (fa 20) (fd 20) ["frame", "setting", "widths"] spClosed := by
  refine fn_S T.d_closed.F sc_closed (fun vs H Q E h => by obtain ⟨B, a, b, c, d, p, q, _, ra, _⟩ := h; rw [ra.len]; rfl) (fun cdv Γ below s H vs Q E hg hr h => ?_)
  obtain ⟨B, a, b, c, d, p, q, e, ra, hf, hwd, ret⟩ := h
  rcases ra with _ | ⟨r1, _ | ⟨r2, _ | ⟨r3, _ | _⟩⟩⟩
  have hl1 : p.length < 500 := by have := hf.1; have := hf.2.2.2.1; omega
  have hl2 : q.length < 500 := by have := hf.2.1; have := hf.2.2.2.2.2; omega
  have hn1 : p ≠ [] := fun z => by have := hf.1; have := hf.2.2.1; rw [z] at *; simp at *; omega
  have hn2 : q ≠ [] := fun z => by have := hf.2.1; have := hf.2.2.2.2.1; rw [z] at *; simp at *; omega
  refine ⟨_, (pss_cons (ps_expr (pe_go (ok_need_setting T) hg (hr.mono (by decide)) rfl T.d_need_setting.at_ T.d_need_setting.F.kp (bn_need_setting T) pass0 (pa_cons (pv 0) (pa_cons (pv 1) pa_nil)))) (pss_cons (ps_expr (pe_go (ok_need_widths T) hg (hr.mono (by decide)) rfl T.d_need_widths.at_ T.d_need_widths.F.kp (bn_need_widths T) pass0 (pa_cons (pv 2) pa_nil))) (pss_cons (ps_asg (pv 1) (pg_tup rfl (pgs_cons (pg_name (i := 3) sc_closed.nd rfl (by first | exact Or.inl rfl | exact Or.inr rfl)) (pgs_cons (pg_name (i := 4) sc_closed.nd rfl (by first | exact Or.inl rfl | exact Or.inr rfl)) pgs_nil)))) (pss_cons (ps_asg (pv 2) (pg_tup rfl (pgs_cons (pg_name (i := 5) sc_closed.nd rfl (by first | exact Or.inl rfl | exact Or.inr rfl)) (pgs_cons (pg_name (i := 6) sc_closed.nd rfl (by first | exact Or.inl rfl | exact Or.inr rfl)) pgs_nil)))) (pss_one (ps_ret (pe_tup (pa_cons (pe_go (ok_closed_row T) hg (hr.mono (by decide)) rfl T.d_closed_row.at_ T.d_closed_row.F.kp (bn_closed_row T) pass0 (pa_cons (pv 3) (pa_cons (pv 5) pa_nil))) (pa_cons (pe_go (ok_closed_row T) hg (hr.mono (by decide)) rfl T.d_closed_row.at_ T.d_closed_row.F.kp (bn_closed_row T) pass0 (pa_cons (pv 4) (pa_cons (pv 6) pa_nil))) pa_nil))))))))), ?_⟩
  refine s_seq (s_drop e (ev_call (by walk_at "u_ea") ⟨a, b, p, q, rfl, hf, rfl⟩) fun H1 u1 => ?_)
  walk_at "u_n"
  refine s_seq (s_drop u1.sub (ev_call (by walk_at "u_ea") ⟨c, d, rfl, hwd, rfl⟩) fun H1' u1' => ?_)
  walk_at "u_n"
  refine s_seq (s_asg2 u1'.sub (by walk_at "u_ev") fun v w B1 H2 n1 rv rw => ?_)
  walk_at "u_n"
  refine s_seq (s_asg2 n1.sub (ev_v rfl (r3.mono n1.ext)) fun v' w' B1' H2' n1' rc rd => ?_)
  walk_at "u_n"
  cases rc; cases rd
  have rv' := rv.mono n1'.ext
  have rw' := rw.mono n1'.ext
  refine (el_call (B := B1') (xs := [eI p, .int c]) (ds := (cloR c p).map .int) (by walk_at "u_ea") ⟨p, c, rfl, hn1, hl1, hwd.1, rfl⟩) H2' n1'.sub _ fun l us B2 H3 n2 lo rl => ?_
  refine (el_call (B := B2) (xs := [eI q, .int d]) (ds := (cloR d q).map .int) (ea_cons (ev_v rfl (rw'.mono n2.ext)) (ea_cons (ev_v rfl (.int _)) ea_nil)) ⟨q, d, rfl, hn2, hl2, hwd.2.2.1, rfl⟩) H3 n2.sub _ fun m ws B3 H4 n3 mo rm => ?_
  refine ⟨by show 2 ≤ sizeLine; decide, fun t ht => ?_⟩
  have e1 := rl.ints_inv
  have e2 := rm.ints_inv
  subst e1
  subst e2
  have U1 := (u1.new.trans u1'.new).trans n1
  have N3 := ((U1.trans n1').trans n2).trans n3
  have lo3 := lo.step n3
  have hb : B3 t = none := Evl.fresh_back N3.sub ht
  have nl : t ≠ l := fun z => by rw [z, lo3.h] at ht; cases ht
  have nm : t ≠ m := fun z => by rw [z, mo.h] at ht; cases ht
  refine ret t l m B3 _ ⟨N3.ext, Evl.Ex.mut N3.sub hb, Evl.Ex.mut N3.heap (Evl.fresh_back N3.heap ht), N3.fresh⟩ ⟨Evl.fresh_back N3.heap ht, hb, upd_same, ?_, ⟨?_, ?_, ?_⟩, ⟨?_, ?_, ?_⟩⟩
  · exact fun z => by have := lo.h; rw [z] at this; have h2 := mo.h0; rw [this] at h2; cases h2
  · exact Evl.fresh_back (U1.trans n1').heap lo.h0
  · exact lo3.b
  · rw [upd_ne nl.symm]; exact lo3.h
  · exact Evl.fresh_back ((U1.trans n1').trans n2).heap mo.h0
  · exact mo.b
  · rw [upd_ne nm.symm]; exact mo.h
theorem ev_closed {σ : L2.St} {B : Hp} {tl : TA} {E : XK} {a b c d : Int} {p q : List Int} (h : EvRA tl σ B [eFr a b, eSet p q, eFr c d]) (hf : SetOk a b p q) (hw : WdOk c d) : EvR (tCall spClosed [] E tl) σ B (eSet (cloR c p) (cloR d q)) := fun H1 e Q k =>
  h H1 e _ fun vs B2 H2 n ra => ⟨B2, a, b, c, d, p, q, n.sub, by rw [List.append_nil]; exact ra, hf, hw, fun t l m B3 H3 n3 pr => by
    obtain ⟨B', n', r'⟩ := pair_new n3 pr
    exact k _ B' H3 (n.trans n') r'⟩
theorem go_closed {σ : L2.St} {B H : Hp} {tl : TA} {E : XK} {a b c d : Int} {p q : List Int} {D : Ends} {i : Nat} (e : Ex B H) (h : EvRA tl σ B [eFr a b, eSet p q, eFr c d]) (hf : SetOk a b p q) (hw : WdOk c d)
    (k : ∀ t l m B2 H2, New B H B2 H2 → Pair2 H B2 H2 t l m ((cloR c p).map V.int) ((cloR d q).map V.int) → D.nx (σ.set i (some (.ref t))) H2) : tAsg (tCall spClosed [] E tl) (gName i) D σ H :=
  h H e _ fun vs B2 H2 n ra => ⟨B2, a, b, c, d, p, q, n.sub, by rw [List.append_nil]; exact ra, hf, hw, fun t l m B3 H3 n3 pr =>
    k t l m B3 H3 (n.trans n3) ⟨Evl.fresh_back n.heap pr.t0, pr.tb, pr.th, pr.ne, n.own pr.lo, n.own pr.mo⟩⟩
theorem ev_closedK {σ : L2.St} {B : Hp} {tl tk : TA} {E : XK} {gV : List V → List V → List V} {gD : List Dt → List Dt → List Dt} {xs ys : List Dt} {a b c d : Int} {p q : List Int} (h : EvRA tl σ B xs) (hk : EvRA tk σ B ys) (rel : ∀ B vs ws as bs, RA B vs as → RA B ws bs → RA B (gV vs ws) (gD as bs))
    (hg : gD xs ys = [eFr a b, eSet p q, eFr c d]) (hf : SetOk a b p q) (hw : WdOk c d) : EvR (tCallK spClosed gV E tl tk) σ B (eSet (cloR c p) (cloR d q)) := fun H1 e Q k =>
  h H1 e _ fun vs B2 H2 n ra => (hk.mono n.ext) H2 n.sub _ fun ws B3 H3 n2 rb => ⟨B3, a, b, c, d, p, q, n2.sub, by rw [← hg]; exact rel B3 vs ws xs ys (ra.mono n2.ext) rb, hf, hw, fun t l m B4 H4 n3 pr => by
    obtain ⟨B', n', r'⟩ := pair_new n3 pr
    exact k _ B' H4 ((n.trans n2).trans n') r'⟩

def cellAt (ns : List Int) (k : Int) : Int := if k < ns.length then ns.getD k.toNat 0 else 0
def spCellA (K : PySem.W.Frag) : Sp := fun vs H Q _ => ∃ (a : Addr) (ns : List Int) (k : Int), vs = [.ref a, .int k] ∧ SqL K H a (ns.map V.int) ∧ 0 ≤ k ∧ ∀ H2, Ex H H2 → Q (.int (cellAt ns k)) H2
theorem ok__law_cell (T : Txt K mg fa fd) : FnG P w K mg base CX0 1 (fa 22) (fd 22) ["script", "k"] (spCellA K) := by
  refine fn_S T.d__law_cell.F sc__law_cell (fun vs H Q E h => by obtain ⟨_, _, _, rfl, _⟩ := h; rfl) (fun cdv Γ below s H vs Q E hg hr h => ?_)
  obtain ⟨a, ns, k, rfl, hs, hk, ret⟩ := h
  refine ⟨_, (pss_cons (ps_if (pt_cmpR op_lt (pv 1) (pe_callB (k_len (K := K) rfl) rfl T.n_len (by decide +kernel) (pa_cons (pv 0) pa_nil)) (nomark _)) (pss_one (ps_ret (pe_ix (k_ix (K := K) rfl) (pv 0) (pv 1) (fun _ _ => rfl)))) pss_nil) (pss_one (ps_ret pe_int))), ?_⟩
  refine ⟨_, rfl, _, rfl, a, _, rfl, .inl hs, _, _, rfl, rfl, _, rfl, ?_⟩
  by_cases hc : k < ns.length
  · have e1 : decide (k < ((ns.map V.int).length : Nat)) = true := decide_eq_true (by rw [List.length_map]; exact hc)
    rw [e1]
    refine ⟨_, rfl, _, rfl, .inl ⟨a, _, k, .int (cellAt ns k), rfl, rfl, hs, ?_, ret H (Evl.Ex.refl H)⟩⟩
    unfold atI ixN
    rw [List.length_map]
    have e2 : k.toNat < ns.length := by omega
    simp only [cellAt, if_pos hc]
    first
      | (simp [hk, hc, e2]; done)
      | (simp [hk, hc, e2, List.getElem?_eq_getElem, List.getD]; done)
      | (split <;> simp_all [List.getElem?_eq_getElem, List.getD] <;> omega)
  · have e1 : decide (k < ((ns.map V.int).length : Nat)) = false := decide_eq_false (by rw [List.length_map]; exact hc)
    rw [e1]
    have e3 : cellAt ns k = 0 := if_neg hc
    rw [e3] at ret
    exact ret H (Evl.Ex.refl H)
theorem ev_cell {σ : L2.St} {B : Hp} {tk : TE} {a : Addr} {ns : List Int} {k : Int} {n : Nat} {E : XK} (h0 : σ[n]? = some (some (.ref a))) (hs : SqL K B a (ns.map V.int)) (hk : EvR tk σ B (.int k)) (h : 0 ≤ k) :
    EvR (tCall (spCellA K) [] E (tCons (tVar n) (tCons tk tNil))) σ B (.int (cellAt ns k)) := fun H1 e Q q =>
  ⟨_, h0, hk H1 e _ fun v B2 H2 nw rv => by
    cases rv
    exact ⟨a, ns, k, rfl, Evl.ex_l (nw.ext.trans nw.sub) hs, h, fun H3 e3 => q _ B2 H3 (nw.trans (New.grow (nw.sub.trans e3) e3 nw.sub)) (.int _)⟩⟩
theorem ev_lenS {σ : L2.St} {B : Hp} {a : Addr} {ns : List Int} {n : Nat} (h0 : σ[n]? = some (some (.ref a))) (hs : SqL K B a (ns.map V.int)) :
    EvR (tCB (rLenS K) (tCons (tVar n) tNil)) σ B (.int (ns.length : Int)) := fun H1 e Q q =>
  ⟨_, h0, a, _, rfl, .inl (Evl.ex_l e hs), by rw [List.length_map]; exact q _ B H1 (New.refl e) (.int _)⟩

/-! ### drawing -/
def draw (c k l : Int) : Int :=
  if 10 ^ 18 ≤ c ∧ 0 < c / 2 ^ (14 * k).toNat then c / 2 ^ (14 * k).toNat % 16384 % l else
  let seed := (c * 48271 + 7919 * k * k + 30011) % 1000000007
  let first := (seed * seed + 60493 * k) % 2147483629
  let second := (first * first + seed) % 2147483587
  let third := (second * second + first) % 2147483563
  third / 64 % l
theorem draw_lt {c k l : Int} (h : 0 < l) : 0 ≤ draw c k l ∧ draw c k l < l := by
  unfold draw
  split
  · exact ⟨Int.emod_nonneg _ (by omega), Int.emod_lt_of_pos _ h⟩
  · exact ⟨Int.emod_nonneg _ (by omega), Int.emod_lt_of_pos _ h⟩
def g__law_draw (ds : List Dt) (d : Dt) : Prop := ∃ c k l : Int, ds = [.int c, .int k, .int l] ∧ 0 ≤ k ∧ k < 1000 ∧ 0 < l ∧ d = .int (draw c k l)
theorem ok__law_draw (T : Txt K mg fa fd) : FnG P w K mg base CX0 1 (fa 23) (fd 23) ["cell", "k", "limit"] (spD g__law_draw) := by
  refine fn_D T.d__law_draw.F sc__law_draw (fun ds d h => by obtain ⟨c, k, l, rfl, _⟩ := h; rfl) (fun cdv Γ below s B H vs ds d Q E hg hr e ra hd ret => ?_)
  obtain ⟨c, k, l, rfl, hk, hk2, hl, rfl⟩ := hd
  rcases ra with _ | ⟨r1, _ | ⟨r2, _ | ⟨r3, _ | _⟩⟩⟩
  cases r1; cases r2; cases r3
  have hu := hr.units
  refine ⟨_, (pss_cons (ps_if (PW.pt (pw_and (pt_cmpR op_ge (pv 0) (pe_op op_pow pe_int pe_int) (nomark _)) (pw_and1 (pt_cmpR op_gt (pe_op op_shr (pv 0) (pe_op op_mul pe_int (pv 1))) pe_int (nomark _))))) (pss_one (ps_ret (pe_op op_mod (pe_op op_mod (pe_callTy c_int rfl T.n_int (by decide +kernel) (pa_cons (pe_op op_shr (pv 0) (pe_op op_mul pe_int (pv 1))) pa_nil)) pe_int) (pv 2)))) pss_nil) (pss_cons (ps_set (i := 3) sc__law_draw.nd rfl (by first | exact Or.inl rfl | exact Or.inr rfl) (pe_op op_mod (pe_callTy c_int rfl T.n_int (by decide +kernel) (pa_cons (pe_op op_addA (pe_op op_addA (pe_op op_mul (pv 0) pe_int) (pe_op op_mul (pe_op op_mul pe_int (pv 1)) (pv 1))) pe_int) pa_nil)) pe_int)) (pss_cons (ps_set (i := 4) sc__law_draw.nd rfl (by first | exact Or.inl rfl | exact Or.inr rfl) (pe_op op_mod (pe_callTy c_int rfl T.n_int (by decide +kernel) (pa_cons (pe_op op_addA (pe_op op_mul (pv 3) (pv 3)) (pe_op op_mul pe_int (pv 1))) pa_nil)) pe_int)) (pss_cons (ps_set (i := 5) sc__law_draw.nd rfl (by first | exact Or.inl rfl | exact Or.inr rfl) (pe_op op_mod (pe_callTy c_int rfl T.n_int (by decide +kernel) (pa_cons (pe_op op_addA (pe_op op_mul (pv 4) (pv 4)) (pv 3)) pa_nil)) pe_int)) (pss_cons (ps_set (i := 6) sc__law_draw.nd rfl (by first | exact Or.inl rfl | exact Or.inr rfl) (pe_op op_mod (pe_callTy c_int rfl T.n_int (by decide +kernel) (pa_cons (pe_op op_addA (pe_op op_mul (pv 5) (pv 5)) (pv 4)) pa_nil)) pe_int)) (pss_one (ps_ret (pe_op op_mod (pe_callTy c_int rfl T.n_int (by decide +kernel) (pa_cons (pe_op op_fdiv (pv 6) pe_int) pa_nil)) (pv 2))))))))), ?_⟩
  refine s_seq (s_if e (by walk_at "u_ec") (fun hb H1 u1 => ?_) (fun hb H1 u1 => ?_))
  · refine s_retE u1.sub (x := .int (c / 2 ^ (14 * k).toNat % 16384 % l)) (by walk_at "u_ev") ?_ (fun v B1 H2 n1 rv => ret v B1 H2 (u1.new.trans n1) rv)
    have h2 : 10 ^ 18 ≤ c ∧ 0 < c / 2 ^ (14 * k).toNat := by simpa using hb
    rw [draw, if_pos h2]
  · have h2 : ¬ (10 ^ 18 ≤ c ∧ 0 < c / 2 ^ (14 * k).toNat) := by simpa using hb
    walk_at "u_n"
    refine s_seq (s_asg u1.sub (by walk_at "u_ev") fun v1 B1 H2 n1 r1 => ?_)
    cases r1
    walk_at "u_n"
    refine s_seq (s_asg n1.sub (by walk_at "u_ev") fun v2 B2 H3 n2 r2 => ?_)
    cases r2
    walk_at "u_n"
    refine s_seq (s_asg n2.sub (by walk_at "u_ev") fun v3 B3 H4 n3 r3 => ?_)
    cases r3
    walk_at "u_n"
    refine s_seq (s_asg n3.sub (by walk_at "u_ev") fun v4 B4 H5 n4 r4 => ?_)
    cases r4
    walk_at "u_n"
    refine s_retE n4.sub (by walk_at "u_ev") ?_ (fun v B5 H6 n5 rv => ret v B5 H6 (((((u1.new.trans n1).trans n2).trans n3).trans n4).trans n5) rv)
    rw [draw, if_neg h2]

def amt (c k : Int) (found : List Int) (j : Int) : Int :=
  let mode := draw c (k + 4 * j) 7
  let a0 := draw c (k + 4 * j + 1) 25 - 12
  let a1 := if mode = 1 then a0 * 40 else a0
  let a2 := if mode = 2 then a1 * 10 ^ 29 + draw c (k + 4 * j + 2) 50 else a1
  let a3 := if mode = 3 ∧ found ≠ [] then found.getD (draw c (k + 4 * j + 2) found.length).toNat 0 else a2
  let a4 := if mode = 4 then (10 ^ 31 - 13 + (if a3 < 0 then -a3 else a3)) * (if 0 < a3 then 1 else -1) else a3
  if mode = 5 then a4 * ([10 ^ 3, 10 ^ 6, 10 ^ 12, 10 ^ 20] : List Int).getD (draw c (k + 4 * j + 3) 4).toNat 0 else a4
def vals (c k : Int) : Nat → List Int
  | 0 => []
  | n + 1 => vals c k n ++ [amt c k (vals c k n) n]
theorem vals_len (c k : Int) : ∀ n, (vals c k n).length = n
  | 0 => rfl
  | n + 1 => by rw [vals, List.length_append, vals_len c k n]; rfl
theorem amt_lt {c k : Int} {found : List Int} {j : Int} (h : ∀ x ∈ found, x.natAbs < 10 ^ 33) : (amt c k found j).natAbs < 10 ^ 33 := by
  have d0 := draw_lt (c := c) (k := k + 4 * j + 1) (l := 25) (by omega)
  have d1 := draw_lt (c := c) (k := k + 4 * j + 2) (l := 50) (by omega)
  have d2 := draw_lt (c := c) (k := k + 4 * j + 3) (l := 4) (by omega)
  unfold amt
  generalize draw c (k + 4 * j) 7 = mode
  generalize draw c (k + 4 * j + 1) 25 = u at *
  generalize draw c (k + 4 * j + 2) 50 = v at *
  generalize draw c (k + 4 * j + 3) 4 = x at *
  have hg : ∀ n, (found.getD n 0).natAbs < 10 ^ 33 := fun n => by
    rw [List.getD_eq_getElem?_getD]
    cases e : found[n]? with
    | none => decide
    | some y => exact h y (List.mem_of_getElem? e)
  have hp : ∃ m : Int, ([10 ^ 3, 10 ^ 6, 10 ^ 12, 10 ^ 20] : List Int).getD x.toNat 0 = m ∧ 0 ≤ m ∧ m ≤ 10 ^ 20 := by
    have : x = 0 ∨ x = 1 ∨ x = 2 ∨ x = 3 := by omega
    rcases this with e | e | e | e <;> rw [e] <;> exact ⟨_, rfl, by decide, by decide⟩
  obtain ⟨m, hm, m0, m1⟩ := hp
  rw [hm]
  have hq := hg (draw c (k + 4 * j + 2) found.length).toNat
  generalize (found.getD (draw c (k + 4 * j + 2) found.length).toNat 0) = g at *
  dsimp only
  by_cases e5 : mode = 5
  · have p1 : -12 * 10 ^ 20 ≤ (u - 12) * m := by
      have a1 : -12 ≤ u - 12 := by omega
      have := Int.mul_le_mul_of_nonneg_right a1 m0
      omega
    have p2 : (u - 12) * m ≤ 12 * 10 ^ 20 := by
      have a1 : u - 12 ≤ 12 := by omega
      have := Int.mul_le_mul_of_nonneg_right a1 m0
      omega
    have n1 : ¬ mode = 1 := by omega
    have n2 : ¬ mode = 2 := by omega
    have n3 : ¬ (mode = 3 ∧ found ≠ []) := by omega
    have n4 : ¬ mode = 4 := by omega
    rw [if_pos e5, if_neg n4, if_neg n3, if_neg n2, if_neg n1]
    omega
  · rw [if_neg e5]
    by_cases e4 : mode = 4
    · have n1 : ¬ mode = 1 := by omega
      have n2 : ¬ mode = 2 := by omega
      have n3 : ¬ (mode = 3 ∧ found ≠ []) := by omega
      rw [if_pos e4, if_neg n3, if_neg n2, if_neg n1]
      split <;> split <;> omega
    · rw [if_neg e4]
      by_cases e3 : mode = 3 ∧ found ≠ []
      · rw [if_pos e3]; exact hq
      · rw [if_neg e3]
        split <;> split <;> omega
theorem vals_lt (c k : Int) : ∀ n, ∀ x ∈ vals c k n, x.natAbs < 10 ^ 33
  | 0 => fun x h => by cases h
  | n + 1 => fun x h => by
    rw [vals] at h
    rcases List.mem_append.mp h with h | h
    · exact vals_lt c k n x h
    · rw [List.mem_singleton.mp h]; exact amt_lt (vals_lt c k n)
def g__law_values (as ds : List Dt) : Prop := ∃ c k n : Int, as = [.int c, .int k, .int n] ∧ 0 ≤ k ∧ k < 500 ∧ 0 ≤ n ∧ n ≤ 100 ∧ ds = (vals c k n.toNat).map .int
theorem ok__law_values (T : Txt K mg fa fd) : FnG P w K mg base CX0 2 (fa 24) (fd 24) ["cell", "k", "many"] (spL g__law_values) := by
  refine fn_L T.d__law_values.F sc__law_values (fun ds d h => by obtain ⟨_, _, _, rfl, _⟩ := h; rfl) (fun cdv Γ below s B H vs as ds Q E hg hr e ra hd ret => ?_)
  obtain ⟨c, k, n, rfl, hk, hk2, hn, hn2, rfl⟩ := hd
  rcases ra with _ | ⟨r1, _ | ⟨r2, _ | ⟨r3, _ | _⟩⟩⟩
  cases r1; cases r2; cases r3
  have hu := hr.units
  refine ⟨_, (pss_cons (ps_set (i := 3) sc__law_values.nd rfl (by first | exact Or.inl rfl | exact Or.inr rfl) (pe_lst pa_nil)) (pss_cons (ps_for PassesOwn.never rfl (pi_range1 rfl T.n_range (pa_cons (pv 2) pa_nil)) (pg_name (i := 4) sc__law_values.nd rfl (by first | exact Or.inl rfl | exact Or.inr rfl)) (pss_cons (ps_set (i := 5) sc__law_values.nd rfl (by first | exact Or.inl rfl | exact Or.inr rfl) (pe_go (ok__law_draw T) hg (hr.mono (by decide)) rfl T.d__law_draw.at_ T.d__law_draw.F.kp (bn__law_draw T) pass0 (pa_cons (pv 0) (pa_cons (pe_op op_addA (pv 1) (pe_op op_mul pe_int (pv 4))) (pa_cons pe_int pa_nil))))) (pss_cons (ps_set (i := 6) sc__law_values.nd rfl (by first | exact Or.inl rfl | exact Or.inr rfl) (pe_op op_sub (pe_go (ok__law_draw T) hg (hr.mono (by decide)) rfl T.d__law_draw.at_ T.d__law_draw.F.kp (bn__law_draw T) pass0 (pa_cons (pv 0) (pa_cons (pe_op op_addA (pe_op op_addA (pv 1) (pe_op op_mul pe_int (pv 4))) pe_int) (pa_cons pe_int pa_nil)))) pe_int)) (pss_cons (ps_if (pt_cmpR (k_eq (K := K) rfl hu) (pv 5) pe_int (nomark _)) (pss_one (ps_set (i := 6) sc__law_values.nd rfl (by first | exact Or.inl rfl | exact Or.inr rfl) (pe_op op_mul (pv 6) pe_int))) pss_nil) (pss_cons (ps_if (pt_cmpR (k_eq (K := K) rfl hu) (pv 5) pe_int (nomark _)) (pss_one (ps_set (i := 6) sc__law_values.nd rfl (by first | exact Or.inl rfl | exact Or.inr rfl) (pe_op op_addA (pe_op op_mul (pv 6) (pe_op op_pow pe_int pe_int)) (pe_go (ok__law_draw T) hg (hr.mono (by decide)) rfl T.d__law_draw.at_ T.d__law_draw.F.kp (bn__law_draw T) pass0 (pa_cons (pv 0) (pa_cons (pe_op op_addA (pe_op op_addA (pv 1) (pe_op op_mul pe_int (pv 4))) pe_int) (pa_cons pe_int pa_nil))))))) pss_nil) (pss_cons (ps_if (PW.pt (pw_and (pt_cmpR (k_eq (K := K) rfl hu) (pv 5) pe_int (nomark _)) (pw_and1 (pt_cmpR (k_ne (K := K) rfl hu) (pv 3) (pe_lst pa_nil) (nomark _))))) (pss_one (ps_set (i := 6) sc__law_values.nd rfl (by first | exact Or.inl rfl | exact Or.inr rfl) (pe_ix (k_ix (K := K) rfl) (pv 3) (pe_go (ok__law_draw T) hg (hr.mono (by decide)) rfl T.d__law_draw.at_ T.d__law_draw.F.kp (bn__law_draw T) pass0 (pa_cons (pv 0) (pa_cons (pe_op op_addA (pe_op op_addA (pv 1) (pe_op op_mul pe_int (pv 4))) pe_int) (pa_cons (pe_callB (k_len (K := K) rfl) rfl T.n_len (by decide +kernel) (pa_cons (pv 3) pa_nil)) pa_nil)))) (fun _ _ => rfl)))) pss_nil) (pss_cons (ps_if (pt_cmpR (k_eq (K := K) rfl hu) (pv 5) pe_int (nomark _)) (pss_one (ps_set (i := 6) sc__law_values.nd rfl (by first | exact Or.inl rfl | exact Or.inr rfl) (pe_op op_mul (pe_op op_addA (pe_op op_sub (pe_op op_pow pe_int pe_int) pe_int) (pe_callB c_abs rfl T.n_abs (by decide +kernel) (pa_cons (pv 6) pa_nil))) (pe_ifExp (pt_cmpR op_gt (pv 6) pe_int (nomark _)) pe_int (pe_un un_neg pe_int))))) pss_nil) (pss_cons (ps_if (pt_cmpR (k_eq (K := K) rfl hu) (pv 5) pe_int (nomark _)) (pss_one (ps_set (i := 6) sc__law_values.nd rfl (by first | exact Or.inl rfl | exact Or.inr rfl) (pe_op op_mul (pv 6) (pe_ix (k_ix (K := K) rfl) (pe_lst (pa_cons (pe_op op_pow pe_int pe_int) (pa_cons (pe_op op_pow pe_int pe_int) (pa_cons (pe_op op_pow pe_int pe_int) (pa_cons (pe_op op_pow pe_int pe_int) pa_nil))))) (pe_go (ok__law_draw T) hg (hr.mono (by decide)) rfl T.d__law_draw.at_ T.d__law_draw.F.kp (bn__law_draw T) pass0 (pa_cons (pv 0) (pa_cons (pe_op op_addA (pe_op op_addA (pv 1) (pe_op op_mul pe_int (pv 4))) pe_int) (pa_cons pe_int pa_nil)))) (fun _ _ => rfl))))) pss_nil) (pss_one (ps_expr (pe_bm PySem.F.plainAttrs_list PySem.F.slot_list_append PySem.F.type_list_append mt_append (pv 3) (pa_cons (pv 6) pa_nil)))))))))))) (pss_one (ps_ret (pv 3))))), ?_⟩
  refine s_seq (s_new e fun p H1 hp hb eH u1 => ?_)
  walk_at "u_n"
  have o1 : Own H B H1 p [] := ⟨hp, hb, by rw [eH]; exact upd_same⟩
  refine s_seq (s_forR u1.sub (by walk_at "u_ea") ⟨hn, by omega⟩ (fun i σ' H' => ∃ v4 v5 v6, σ' = [some (.int c), some (.int k), some (.int n), some (.ref p), v4, v5, v6] ∧ Ex B H' ∧ Ex H H' ∧ Own H B H' p ((vals c k i).map V.int)) ?_ ?_ ?_)
  · intro H2 u2
    exact ⟨none, none, none, rfl, u2.sub, u1.heap.trans u2.heap, o1.up u2.heap⟩
  · rintro i σ' H' hi ⟨v4, v5, v6, rfl, eB, eH0, o⟩
    have hi2 : (i : Int) < 100 := by omega
    have dr : ∀ a l : Int, 0 ≤ a → a < 1000 → 0 < l → g__law_draw [.int c, .int a, .int l] (.int (draw c a l)) := fun a l h1 h2 h3 => ⟨c, a, l, rfl, h1, h2, h3, rfl⟩
    walk_at "u_n"
    refine s_seq (s_asg (d := .int (draw c (k + 4 * i) 7)) eB (ev_call (ds := [.int c, .int (k + 4 * i), .int 7]) (by walk_at "u_ea") (dr _ _ (by omega) (by omega) (by omega))) fun w1 B1 H1 n1 r1 => ?_)
    cases r1
    walk_at "u_n"
    refine s_seq (s_asg (d := .int (draw c (k + 4 * i + 1) 25 - 12)) n1.sub (ev_op (ev_call (ds := [.int c, .int (k + 4 * i + 1), .int 25]) (by walk_at "u_ea") (dr _ _ (by omega) (by omega) (by omega))) ev_i rv_sub) fun w2 B2 H2 n2 r2 => ?_)
    cases r2
    have d0 := draw_lt (c := c) (k := k + 4 * i + 1) (l := 25) (by omega)
    have d1 := draw_lt (c := c) (k := k + 4 * i + 2) (l := 50) (by omega)
    have d2 := draw_lt (c := c) (k := k + 4 * i + 3) (l := 4) (by omega)
    have N2 := n1.trans n2
    have oo := o.step N2
    walk_at "u_n"
    generalize ea0 : draw c (k + 4 * i + 1) 25 - 12 = a0 at *
    generalize em : draw c (k + 4 * i) 7 = mode at *
    refine s_seq (s_ifI (i := a0 * 40) (k := a0) n2.sub (by walk_at "u_ec") (fun _ => by walk_at "u_ev") rfl fun H3 u3 => ?_)
    walk_at "u_n"
    generalize ea1 : (if decide (mode = 1) = true then a0 * 40 else a0) = a1
    have hb1 : -600 ≤ a1 ∧ a1 ≤ 600 := by rw [← ea1]; split <;> omega
    refine s_seq (s_ifI (i := a1 * 10 ^ 29 + draw c (k + 4 * i + 2) 50) (k := a1) u3.sub (by walk_at "u_ec") (fun _ => EvR.is (ev_op (ev_op (ev_v rfl (.int _)) (ev_op ev_i ev_i (rv_pow ⟨by decide, by decide, by decide⟩)) (rv_mul (.inl (by omega)))) (ev_call (ds := [.int c, .int (k + 4 * i + 2), .int 50]) (by walk_at "u_ea") (dr _ _ (by omega) (by omega) (by omega))) (rv_inl rv_add)) rfl) rfl fun H4 u4 => ?_)
    walk_at "u_n"
    generalize ea2 : (if decide (mode = 2) = true then a1 * 10 ^ 29 + draw c (k + 4 * i + 2) 50 else a1) = a2
    have o4 := (oo.up u3.heap).up u4.heap
    have e4 := o4.ex u4.sub
    have rf : R (upd B2 p (.lst ((vals c k i).map V.int))) (.ref p) (eI (vals c k i)) := o4.data (RA.ints _)
    have eu : Ex B2 (upd B2 p (.lst ((vals c k i).map V.int))) := Evl.Ex.new o4.b
    have hlen := vals_len c k i
    have d3 := fun h => draw_lt (c := c) (k := k + 4 * i + 2) (l := ((vals c k i).length : Int)) h
    have cond : EvC (tAnd (tTest (tOp (rOr rEq (rEqD K)) (tVar 5) (tC (.int 3)))) (tTest (tOp (rOr rNe (rNeD K)) (tVar 3) (tLst tNil)))) ([some (.int c), some (.int k), some (.int n), some (.ref p), some (.int i), some (.int mode), some (.int a2)]) (upd B2 p (.lst ((vals c k i).map V.int))) (decide (mode = 3 ∧ vals c k i ≠ [])) := by
      refine EvC.is (ec_and (by walk_at "u_ec") fun _ => ec_t (ev_op (ev_v rfl rf) (ev_lst ea_nil (by decide)) (rv_inr (rv_neD shaped_eI (shaped_eI (ns := [])))))) ?_
      rw [eqv_nil (f := vals c k i)]
      simp [Bool.decide_and]
    refine s_seq (s_ifI (i := (vals c k i).getD (draw c (k + 4 * i + 2) (vals c k i).length).toNat 0) (k := a2) e4 cond (fun hc => ?_) rfl fun H5 u5 => ?_)
    · have hne : vals c k i ≠ [] := (of_decide_eq_true hc).2
      have hpos : 0 < ((vals c k i).length : Int) := by have := List.length_pos_iff.mpr hne; omega
      have d3 := d3 hpos
      refine ev_op (ev_v rfl rf) (ev_call (ds := [.int c, .int (k + 4 * i + 2), .int ((vals c k i).length : Int)]) ?_ (dr _ _ (by omega) (by omega) hpos)) (rv_ixL (atI_ints d3.1 d3.2))
      refine ea_cons (by walk_at "u_ev") (ea_cons (by walk_at "u_ev") (ea_cons ?_ ea_nil))
      have := ev_cb (ea_cons (ev_v (σ := [some (.int c), some (.int k), some (.int n), some (.ref p), some (.int i), some (.int mode), some (.int a2)]) (n := 3) rfl rf) ea_nil) (rl_lenL (K := K))
      rw [List.length_map] at this
      exact this
    walk_at "u_n"
    generalize ea3 : (if decide (mode = 3 ∧ vals c k i ≠ []) = true then (vals c k i).getD (draw c (k + 4 * i + 2) (vals c k i).length).toNat 0 else a2) = a3
    have e5 : Ex B2 H5 := eu.trans u5.sub
    refine s_seq (s_ifI (i := (10 ^ 31 - 13 + (if a3 < 0 then -a3 else a3)) * (if decide (0 < a3) = true then 1 else -1)) (k := a3) e5 (by walk_at "u_ec") (fun _ => EvR.is (ev_op (ev_op (ev_op (ev_op ev_i ev_i (rv_pow ⟨by decide, by decide, by decide⟩)) ev_i rv_sub) (by walk_at "u_ev") (rv_inl rv_add)) (ev_ifI (by walk_at "u_ec") ev_i (ev_un ev_i ru_neg)) (rv_mul (.inr (by split <;> decide)))) rfl) rfl fun H6 u6 => ?_)
    walk_at "u_n"
    generalize ea4 : (if decide (mode = 4) = true then (10 ^ 31 - 13 + (if a3 < 0 then -a3 else a3)) * (if decide (0 < a3) = true then 1 else -1) else a3) = a4
    have hb4 : mode = 5 → -600 ≤ a4 ∧ a4 ≤ 600 := fun hm => by
      have q4 : a4 = a3 := by rw [← ea4, if_neg (by simp; omega)]
      have q3 : a3 = a2 := by rw [← ea3, if_neg (by simp; omega)]
      have q2 : a2 = a1 := by rw [← ea2, if_neg (by simp; omega)]
      omega
    have ds4 : ∃ x : Int, draw c (k + 4 * i + 3) 4 = x := ⟨_, rfl⟩
    refine s_seq (s_ifI (i := a4 * ([10 ^ 3, 10 ^ 6, 10 ^ 12, 10 ^ 20] : List Int).getD (draw c (k + 4 * i + 3) 4).toNat 0) (k := a4) u6.sub (by walk_at "u_ec") (fun hm => ?_) rfl fun H7 u7 => ?_)
    · have hm : mode = 5 := by simpa using hm
      have hb := hb4 hm
      refine EvR.is (ev_op (by walk_at "u_ev") (ev_op (x := .lst ([10 ^ 3, 10 ^ 6, 10 ^ 12, 10 ^ 20].map Dt.int)) ?_ (ev_call (ds := [.int c, .int (k + 4 * i + 3), .int 4]) (by walk_at "u_ea") (dr _ _ (by omega) (by omega) (by omega))) (rv_ixL (atI_ints d2.1 d2.2))) (rv_mul (.inl (by omega)))) rfl
      exact EvR.is (ev_lst (ea_cons (ev_op ev_i ev_i (rv_pow ⟨by decide, by decide, by decide⟩)) (ea_cons (ev_op ev_i ev_i (rv_pow ⟨by decide, by decide, by decide⟩)) (ea_cons (ev_op ev_i ev_i (rv_pow ⟨by decide, by decide, by decide⟩)) (ea_cons (ev_op ev_i ev_i (rv_pow ⟨by decide, by decide, by decide⟩)) ea_nil)))) (by decide)) rfl
    walk_at "u_n"
    generalize ea5 : (if decide (mode = 5) = true then a4 * ([10 ^ 3, 10 ^ 6, 10 ^ 12, 10 ^ 20] : List Int).getD (draw c (k + 4 * i + 3) 4).toNat 0 else a4) = a5
    have o7 := ((o4.up u5.heap).up u6.heap).up u7.heap
    refine s_app (u7.sub) o7 rfl (by walk_at "u_ev") (by rw [List.length_map, hlen]; omega) fun v B8 H8 n8 o8 r8 => ?_
    cases r8
    have key : amt c k (vals c k i) i = a5 := by
      unfold amt
      rw [em, ea0]
      dsimp only
      simp only [decide_eq_true_eq] at ea1 ea2 ea3 ea4 ea5
      rw [ea1, ea2, ea3, ea4, ea5]
    have HH : Ex H' H8 := N2.heap.trans (u3.heap.trans (u4.heap.trans (u5.heap.trans (u6.heap.trans (u7.heap.trans n8.heap)))))
    have B8' : Ex B H8 := N2.ext.trans (n8.ext.trans n8.sub)
    refine ⟨_, _, _, rfl, Evl.Ex.mut B8' o.b, Evl.Ex.mut (eH0.trans HH) o.h0, ?_⟩
    have of : Own H B H8 p ((vals c k i).map V.int) := ⟨o.h0, o.b, o8.h⟩
    have g := of.put (ys := (vals c k i).map V.int ++ [.int a5])
    rw [vals, List.map_append, key]
    exact g
  · rintro σ' H' ⟨v4, v5, v6, rfl, eB, eH0, o⟩
    walk_at "u_n"
    exact ⟨_, rfl, ret p _ B H' ⟨Evl.Ex.refl _, eB, eH0, fun _ h _ => h⟩ o (RA.ints _)⟩

def fr0 (c : Int) : Int := 1 + draw c 0 3
def fr1 (c : Int) : Int := 1 + draw c 1 3
theorem frOk (c : Int) : 1 ≤ fr0 c ∧ fr0 c ≤ 3 ∧ 1 ≤ fr1 c ∧ fr1 c ≤ 3 := by
  have h1 := draw_lt (c := c) (k := 0) (l := 3) (by omega)
  have h2 := draw_lt (c := c) (k := 1) (l := 3) (by omega)
  unfold fr0 fr1
  omega
def g__law_frame (ds : List Dt) (d : Dt) : Prop := ∃ c : Int, ds = [.int c] ∧ d = eFr (fr0 c) (fr1 c)
theorem ok__law_frame (T : Txt K mg fa fd) : FnG P w K mg base CX0 2 (fa 25) (fd 25) ["cell"] (spD g__law_frame) := by
  refine fn_D T.d__law_frame.F sc__law_frame (fun ds d h => by obtain ⟨_, rfl, _⟩ := h; rfl) (fun cdv Γ below s B H vs ds d Q E hg hr e ra hd ret => ?_)
  obtain ⟨c, rfl, rfl⟩ := hd
  rcases ra with _ | ⟨r1, _ | _⟩
  cases r1
  refine ⟨_, (pss_one (ps_ret (pe_tup (pa_cons (pe_op op_addA pe_int (pe_go (ok__law_draw T) hg (hr.mono (by decide)) rfl T.d__law_draw.at_ T.d__law_draw.F.kp (bn__law_draw T) pass0 (pa_cons (pv 0) (pa_cons pe_int (pa_cons pe_int pa_nil))))) (pa_cons (pe_op op_addA pe_int (pe_go (ok__law_draw T) hg (hr.mono (by decide)) rfl T.d__law_draw.at_ T.d__law_draw.F.kp (bn__law_draw T) pass0 (pa_cons (pv 0) (pa_cons pe_int (pa_cons pe_int pa_nil))))) pa_nil))))), ?_⟩
  refine s_retE e (ev_tup (ea_cons (ev_op ev_i (ev_call (by walk_at "u_ea") ⟨c, 0, 3, rfl, by decide, by decide, by decide, rfl⟩) (rv_inl rv_add)) (ea_cons (ev_op ev_i (ev_call (by walk_at "u_ea") ⟨c, 1, 3, rfl, by decide, by decide, by decide, rfl⟩) (rv_inl rv_add)) ea_nil)) (by simp)) rfl ret

def pt0 (c : Int) : List Int := vals c 10 (fr0 c).toNat
def pt1 (c : Int) : List Int := vals c 22 (fr1 c).toNat
def g__law_setting (ds : List Dt) (d : Dt) : Prop := ∃ c : Int, ds = [.int c, eFr (fr0 c) (fr1 c)] ∧ d = eSet (pt0 c) (pt1 c)
theorem ok__law_setting (T : Txt K mg fa fd) : FnG P w K mg base CX0 3 (fa 26) (fd 26) ["cell", "plane"] (spD g__law_setting) := by
  refine fn_D T.d__law_setting.F sc__law_setting (fun ds d h => by obtain ⟨_, rfl, _⟩ := h; rfl) (fun cdv Γ below s B H vs ds d Q E hg hr e ra hd ret => ?_)
  obtain ⟨c, rfl, rfl⟩ := hd
  rcases ra with _ | ⟨r1, _ | ⟨r2, _ | _⟩⟩
  cases r1
  have hf := frOk c
  refine ⟨_, (pss_one (ps_ret (pe_tup (pa_cons (pe_go (ok__law_values T) hg (hr.mono (by decide)) rfl T.d__law_values.at_ T.d__law_values.F.kp (bn__law_values T) pass0 (pa_cons (pv 0) (pa_cons pe_int (pa_cons (pe_ix (k_ix (K := K) rfl) (pv 1) pe_int (fun _ _ => rfl)) pa_nil)))) (pa_cons (pe_go (ok__law_values T) hg (hr.mono (by decide)) rfl T.d__law_values.at_ T.d__law_values.F.kp (bn__law_values T) pass0 (pa_cons (pv 0) (pa_cons pe_int (pa_cons (pe_ix (k_ix (K := K) rfl) (pv 1) pe_int (fun _ _ => rfl)) pa_nil)))) pa_nil))))), ?_⟩
  refine s_retE e (ev_tup (ea_cons (EvL.toR (el_call (xs := [.int c, .int 10, .int (fr0 c)]) (ea_cons (by walk_at "u_ev") (ea_cons ev_i (ea_cons (ev_op (by walk_at "u_ev") ev_i (rv_ixT rfl)) ea_nil))) ⟨c, 10, fr0 c, rfl, by decide, by decide, by omega, by omega, rfl⟩))
    (ea_cons (EvL.toR (el_call (xs := [.int c, .int 22, .int (fr1 c)]) (ea_cons (by walk_at "u_ev") (ea_cons ev_i (ea_cons (ev_op (by walk_at "u_ev") ev_i (rv_ixT rfl)) ea_nil))) ⟨c, 22, fr1 c, rfl, by decide, by decide, by omega, by omega, rfl⟩)) ea_nil)) (by simp)) rfl ret

def g__law_closed (ds : List Dt) (d : Dt) : Prop := ∃ (ns : List Int) (w : Int), ds = [eI ns, .int w] ∧ ns ≠ [] ∧ ns.length < 60 ∧ 0 ≤ w ∧ d = eI (cloR w ns)
theorem ok__law_closed (T : Txt K mg fa fd) : FnG P w K mg base CX0 1 (fa 28) (fd 28) ["values", "width"] (spD g__law_closed) := by
  refine fn_D T.d__law_closed.F sc__law_closed (fun ds d h => by obtain ⟨_, _, rfl, _⟩ := h; rfl) (fun cdv Γ below s B H vs ds d Q E hg hr e ra hd ret => ?_)
  obtain ⟨ns, wd, rfl, hn, hl, hw, rfl⟩ := hd
  rcases ra with _ | ⟨r1, _ | ⟨r2, _ | _⟩⟩
  cases r2
  have hu := hr.units
  refine ⟨_, (pss_cons (ps_set (i := 2) sc__law_closed.nd rfl (by first | exact Or.inl rfl | exact Or.inr rfl) (pe_callB (k_sortedSet (w := w) rfl rfl) rfl T.n_sorted (by decide +kernel) (pa_cons (pe_callTy (k_setL (K := K) (w := w) rfl rfl rfl) rfl T.n_set (by decide +kernel) (pa_cons (pe_lc (own := [("amount", 3)]) (g := (gName 3)) (tt := tYes) rfl sc__law_closed.nd (k_seq (K := K) rfl (pv 0)) (blkOk_by (N := ["values", "width", "levels", "amount", "places", "k", "gap"]) (sc := defScope s__law_closed) (by decide +kernel)) (fun _ _ _ _ _ => (pg_name (i := 3) sc__law_closed.nd rfl (by first | exact Or.inl rfl | exact Or.inr rfl))) (fun _ _ _ _ _ => pts_nil) (fun _ _ _ _ _ => (pe_callTy c_int rfl T.n_int (by decide +kernel) (pa_cons (pv 3) pa_nil)))) pa_nil)) pa_nil))) (pss_cons (ps_set (i := 4) sc__law_closed.nd rfl (by first | exact Or.inl rfl | exact Or.inr rfl) (pe_lst (pa_cons pe_int pa_nil))) (pss_cons (ps_for PassesOwn.never rfl (pi_range2 rfl T.n_range (pa_cons pe_int (pa_cons (pe_callB (k_len (K := K) rfl) rfl T.n_len (by decide +kernel) (pa_cons (pv 2) pa_nil)) pa_nil))) (pg_name (i := 5) sc__law_closed.nd rfl (by first | exact Or.inl rfl | exact Or.inr rfl)) (pss_cons (ps_set (i := 6) sc__law_closed.nd rfl (by first | exact Or.inl rfl | exact Or.inr rfl) (pe_op op_sub (pe_ix (k_ix (K := K) rfl) (pv 2) (pv 5) (fun _ _ => rfl)) (pe_ix (k_ix (K := K) rfl) (pv 2) (pe_op op_sub (pv 5) pe_int) (fun _ _ => rfl)))) (pss_one (ps_expr (pe_bm PySem.F.plainAttrs_list PySem.F.slot_list_append PySem.F.type_list_append mt_append (pv 4) (pa_cons (pe_op op_addA (pe_ix (k_ix (K := K) rfl) (pv 4) (pe_un un_neg pe_int) (fun _ _ => rfl)) (pe_ifExp (pt_cmpR op_le (pv 6) (pe_op op_addA (pv 1) pe_int) (nomark _)) (pv 6) (pe_op op_addA (pv 1) pe_int))) pa_nil)))))) (pss_one (ps_ret (pe_lc (own := [("amount", 3)]) (g := (gName 3)) (tt := tYes) rfl sc__law_closed.nd (k_seq (K := K) rfl (pv 0)) (blkOk_by (N := ["values", "width", "levels", "amount", "places", "k", "gap"]) (sc := defScope s__law_closed) (by decide +kernel)) (fun _ _ _ _ _ => (pg_name (i := 3) sc__law_closed.nd rfl (by first | exact Or.inl rfl | exact Or.inr rfl))) (fun _ _ _ _ _ => pts_nil) (fun _ _ _ _ _ => (pe_ix (k_ix (K := K) rfl) (pv 4) (k_bm (K := K) rfl PySem.F.plainAttrs_list PySem.F.slot_list_index PySem.F.type_list_index (k_index (K := K) rfl) (pv 2) (pa_cons (pv 3) pa_nil)) (fun _ _ => rfl))))))))), ?_⟩
  refine s_seq (s_sortedS (w := w) (ns := ns) e (EvR.is (q_lc1 (l := ns) (enc := Dt.int) (f := Dt.int) (by walk_at "u_ev") (Items.lst _) (by omega) (fun _ => rfl) (fun q v B1 hm hB rv => ?_)) rfl) (by omega) fun o v1 B1 H1 hm hlt n1 r1' => ?_)
  · cases rv
    walk_at "u_ev"
  have hs : o.Pairwise (· ≤ ·) := hlt.imp fun h => Int.le_of_lt h
  obtain ⟨o0, os, ho⟩ := List.exists_cons_of_ne_nil (show o ≠ [] from fun z => by
    obtain ⟨x, xs, hx⟩ := List.exists_cons_of_ne_nil hn
    have := (hm x).mpr (by rw [hx]; exact List.mem_cons_self)
    rw [z] at this; cases this)
  have h0 : o[0]? = some o0 := by rw [ho]; rfl
  have hol : o.length ≤ ns.length := nodup_len (hlt.imp fun h => Int.ne_of_lt h) fun x hx => (hm x).mp hx
  have opos : 0 < o.length := by rw [ho, List.length_cons]; omega
  walk_at "u_n"
  refine s_seq (s_asgL n1.sub (el_lst (ds := [.int 0]) (ea_cons ev_i ea_nil) (by simp)) fun p us B2 H2 n2 ow r2 => ?_)
  have eus := r2.ints_inv (ns := [0])
  subst eus
  walk_at "u_n"
  have N2 := n1.trans n2
  have ow2 := n1.own ow
  have r1b := r1'.mono n2.ext
  have r0b := (r1.mono n1.ext).mono n2.ext
  refine s_seq (s_for1 (m := o.length) n2.sub (ea_cons ev_i (ea_cons (EvR.is (ev_cb (ea_cons (ev_v rfl r1b) ea_nil) rl_lenL) (by rw [List.length_map])) ea_nil)) (by omega)
    (fun i σ' H' => ∃ v0 v2 v3 v5 v6, σ' = [some v0, some (.int wd), some v2, v3, some (.ref p), v5, v6] ∧ R B2 v0 (eI ns) ∧ R B2 v2 (eI o) ∧ Ex B2 H' ∧ Ex H H' ∧ Own H B2 H' p (((o.take (i + 1)).map (clo wd ns)).map V.int)) ?_ ?_ ?_)
  · intro H3 u3
    refine ⟨_, _, _, _, _, rfl, r0b, r1b, u3.sub, N2.heap.trans u3.heap, ?_⟩
    have : ((o.take (0 + 1)).map (clo wd ns)).map V.int = [V.int 0] := by rw [ho]; show [V.int (clo wd ns o0)] = _; rw [clo_first hm hs h0]
    rw [this]
    exact ow2.up u3.heap
  · rintro i σ' H' hi ⟨v0, v2, v3, v5, v6, rfl, rv0, rv2, eB, eH, oo⟩
    walk_at "u_n"
    have hx : o[i]? = some (o[i]) := List.getElem?_eq_getElem (by omega)
    have hy : o[i + 1]? = some (o[i + 1]) := List.getElem?_eq_getElem hi
    generalize o[i] = x at hx
    generalize o[i + 1] = y at hy
    refine s_seq (s_asg (d := .int (y - x)) eB (ev_op (ev_op (ev_v rfl rv2) (ev_v rfl (.int _)) (rv_ixL (atI_nat' (by rw [List.getElem?_map, hy]; rfl)))) (ev_op (ev_v rfl rv2) (EvR.is (ev_op (ev_v rfl (.int _)) ev_i rv_sub) (show Dt.int (((i + 1 : Nat) : Int) - 1) = Dt.int ((i : Nat) : Int) by congr 1; omega)) (rv_ixL (atI_nat' (by rw [List.getElem?_map, hx]; rfl)))) rv_sub) fun v B4 H4 n4 r4 => ?_)
    cases r4
    walk_at "u_n"
    have o4 := oo.step n4
    have tl : (o.take (i + 1)).length = i + 1 := by rw [List.length_take]; omega
    refine s_appI (a := clo wd ns y) n4.sub o4 rfl (EvR.is (ev_op (ev_op (ev_v rfl (o4.data (RA.ints _))) (ev_un ev_i ru_neg) (rv_ixL (atI_last' (v := .int (clo wd ns x)) ?_))) (ev_ifI (by walk_at "u_ec") (ev_v rfl (.int _)) (by walk_at "u_ev")) (rv_inl rv_add)) ?_) (by rw [List.length_map, tl]; omega) (eH.trans n4.heap) (fun H5 e5 eH5 o5 => ?_)
    · rw [List.length_map, List.length_map, tl, List.getElem?_map, List.getElem?_map, List.getElem?_take, if_pos (by omega)]
      show Option.map Dt.int (Option.map (clo wd ns) o[i]?) = _
      rw [hx]; rfl
    · rw [clo_next hw hm hs hx hy]
      congr 2
      split <;> simp at * <;> omega
    · refine ⟨_, _, _, _, _, rfl, rv0, rv2, n4.ext.trans e5, eH5, ⟨oo.h0, oo.b, ?_⟩⟩
      rw [o5.h, List.take_add_one (i := i + 1), hy]
      simp only [List.map_append]
      rfl
  · rintro σ' H' ⟨v0, v2, v3, v5, v6, rfl, rv0, rv2, eB, eH, oo⟩
    walk_at "u_n"
    rw [show o.length - 1 + 1 = o.length by omega, List.take_length] at oo
    have N3 : New B H B2 H' := ⟨N2.ext, eB, eH, N2.fresh⟩
    have N4 := N3.give oo
    have eu : Ex B2 (upd B2 p (.lst ((o.map (clo wd ns)).map V.int))) := Evl.Ex.new oo.b
    refine s_retE N4.sub (q_lc1 (l := ns) (enc := Dt.int) (f := fun q => Dt.int (clo wd ns q)) (ev_v rfl (rv0.mono eu)) (Items.lst _) (by omega) (fun _ => rfl) (fun q v B5 hmm hB rv => ?_)) ?_ (fun v B6 H6 n6 r6 => ret v B6 H6 (N4.trans n6) r6)
    · cases rv
      obtain ⟨j, hj⟩ := List.mem_iff_getElem?.mp ((hm q).mpr hmm)
      refine ev_op (ev_v rfl ((oo.data (RA.ints _)).mono hB)) (ev_lix rfl ((rv2.mono eu).mono hB) (ev_v rfl (.int _)) hj fun m hmj hz => ?_) (rv_ixL (atI_nat' (by rw [List.getElem?_map, List.getElem?_map, hj]; rfl)))
      obtain ⟨a1, a2⟩ := List.getElem?_eq_some_iff.mp hj
      obtain ⟨b1, b2⟩ := List.getElem?_eq_some_iff.mp hz
      have := List.pairwise_iff_getElem.mp hlt m j b1 a1 hmj
      omega
    · show Dt.lst (ns.map fun q => Dt.int (clo wd ns q)) = Dt.lst ((ns.map (clo wd ns)).map Dt.int)
      rw [List.map_map]; rfl

def g__law_same (ds : List Dt) (d : Dt) : Prop := ∃ x y : Dt, ds = [x, y] ∧ isSeq x = true ∧ isSeq y = true ∧ Fit x ∧ Fit y ∧ d = .bl (decide (x.py.shown = y.py.shown))
theorem ok__law_same (T : Txt K mg fa fd) : FnG P w K mg base CX0 1 (fa 29) (fd 29) ["found", "due"] (spD g__law_same) := by
  refine fn_D T.d__law_same.F sc__law_same (fun ds d h => by obtain ⟨_, _, rfl, _⟩ := h; rfl) (fun cdv Γ below s B H vs ds d Q E hg hr e ra hd ret => ?_)
  obtain ⟨x, y, rfl, h1, h2, f1, f2, rfl⟩ := hd
  rcases ra with _ | ⟨r1, _ | ⟨r2, _ | _⟩⟩
  have hu := hr.units
  refine ⟨_, (pss_one (ps_ret (pe_cmpR (k_eq (K := K) rfl hu) (pe_callB (c_repr hg hu) rfl T.n_repr (by decide +kernel) (pa_cons (pv 0) pa_nil)) (pe_callB (c_repr hg hu) rfl T.n_repr (by decide +kernel) (pa_cons (pv 1) pa_nil)) (nomark _)))), ?_⟩
  exact s_retE e (ev_op (ev_cb (by walk_at "u_ea") (rl_reprD h1 f1)) (ev_cb (by walk_at "u_ea") (rl_reprD h2 f2)) (rv_inl rv_eqS)) rfl ret
theorem same_yes {x : Dt} (h : isSeq x = true) (f : Fit x) : g__law_same [x, x] (.bl true) := ⟨x, x, rfl, h, h, f, f, by rw [decide_eq_true rfl]⟩

def wdt (c k : Int) : Int := ([0, 1, 40, draw c (k + 1) 41, draw c (k + 2) 8] : List Int).getD (draw c k 5).toNat 0
theorem wdt_lt (c k : Int) : 0 ≤ wdt c k ∧ wdt c k ≤ 40 := by
  have d0 := draw_lt (c := c) (k := k) (l := 5) (by omega)
  have d1 := draw_lt (c := c) (k := k + 1) (l := 41) (by omega)
  have d2 := draw_lt (c := c) (k := k + 2) (l := 8) (by omega)
  unfold wdt
  generalize draw c k 5 = x at *
  have : x = 0 ∨ x = 1 ∨ x = 2 ∨ x = 3 ∨ x = 4 := by omega
  rcases this with e | e | e | e | e <;> rw [e]
  · show 0 ≤ (0 : Int) ∧ (0 : Int) ≤ 40; omega
  · show 0 ≤ (1 : Int) ∧ (1 : Int) ≤ 40; omega
  · show 0 ≤ (40 : Int) ∧ (40 : Int) ≤ 40; omega
  · show 0 ≤ draw c (k + 1) 41 ∧ draw c (k + 1) 41 ≤ 40; omega
  · show 0 ≤ draw c (k + 2) 8 ∧ draw c (k + 2) 8 ≤ 40; omega
def g__law_width (ds : List Dt) (d : Dt) : Prop := ∃ c k : Int, ds = [.int c, .int k] ∧ 0 ≤ k ∧ k < 500 ∧ d = .int (wdt c k)
theorem ok__law_width (T : Txt K mg fa fd) : FnG P w K mg base CX0 2 (fa 30) (fd 30) ["cell", "k"] (spD g__law_width) := by
  refine fn_D T.d__law_width.F sc__law_width (fun ds d h => by obtain ⟨_, _, rfl, _⟩ := h; rfl) (fun cdv Γ below s B H vs ds d Q E hg hr e ra hd ret => ?_)
  obtain ⟨c, k, rfl, hk, hk2, rfl⟩ := hd
  rcases ra with _ | ⟨r1, _ | ⟨r2, _ | _⟩⟩
  cases r1; cases r2
  refine ⟨_, (pss_one (ps_ret (pe_ix (k_ix (K := K) rfl) (pe_lst (pa_cons pe_int (pa_cons pe_int (pa_cons pe_int (pa_cons (pe_go (ok__law_draw T) hg (hr.mono (by decide)) rfl T.d__law_draw.at_ T.d__law_draw.F.kp (bn__law_draw T) pass0 (pa_cons (pv 0) (pa_cons (pe_op op_addA (pv 1) pe_int) (pa_cons pe_int pa_nil)))) (pa_cons (pe_go (ok__law_draw T) hg (hr.mono (by decide)) rfl T.d__law_draw.at_ T.d__law_draw.F.kp (bn__law_draw T) pass0 (pa_cons (pv 0) (pa_cons (pe_op op_addA (pv 1) pe_int) (pa_cons pe_int pa_nil)))) pa_nil)))))) (pe_go (ok__law_draw T) hg (hr.mono (by decide)) rfl T.d__law_draw.at_ T.d__law_draw.F.kp (bn__law_draw T) pass0 (pa_cons (pv 0) (pa_cons (pv 1) (pa_cons pe_int pa_nil)))) (fun _ _ => rfl)))), ?_⟩
  have dr : ∀ a l : Int, 0 ≤ a → a < 1000 → 0 < l → g__law_draw [.int c, .int a, .int l] (.int (draw c a l)) := fun a l h1 h2 h3 => ⟨c, a, l, rfl, h1, h2, h3, rfl⟩
  have d0 := draw_lt (c := c) (k := k) (l := 5) (by omega)
  refine s_retE e (ev_op (x := .lst (([0, 1, 40, draw c (k + 1) 41, draw c (k + 2) 8] : List Int).map Dt.int)) (ev_lst (ea_cons ev_i (ea_cons ev_i (ea_cons ev_i (ea_cons (ev_call (by walk_at "u_ea") (dr (k + 1) 41 (by omega) (by omega) (by omega))) (ea_cons (ev_call (by walk_at "u_ea") (dr (k + 2) 8 (by omega) (by omega) (by omega))) ea_nil))))) (by simp)) (ev_call (by walk_at "u_ea") (dr k 5 (by omega) (by omega) (by omega))) (rv_ixL (atI_ints d0.1 d0.2))) rfl (fun v B1 H1 n1 rv => ret v B1 H1 n1 rv)

theorem cloR_plain {w : Int} {ns : List Int} : cloR w (plainR ns) = cloR w ns := by
  have e : plainR ns = ns.map (· + (-minL ns)) := List.map_congr_left fun x _ => by omega
  rw [e, cloR_shift]
theorem cloR_lt {w : Int} {ns : List Int} {M : Nat} (hw : 0 ≤ w) (h : ∀ x ∈ ns, x.natAbs < M) : ∀ x ∈ cloR w ns, x.natAbs < 2 * M := fun x hx => by
  obtain ⟨y, hy, rfl⟩ := List.mem_map.mp hx
  have h1 := h y hy
  have h2 := h (minL ns) (minL_mem (List.ne_nil_of_mem hy))
  have h3 := clo_range (clo_is w ns) hw _ y hy (Nat.le_refl _)
  omega
theorem plainR_len (ns : List Int) : (plainR ns).length = ns.length := by unfold plainR; rw [List.length_map]
def g__law_right (ds : List Dt) (d : Dt) : Prop := ∃ c : Int, ds = [.int c] ∧ d = .bl true
theorem ok__law_right (T : Txt K mg fa fd) : FnG P w K mg base CX0 7 (fa 31) (fd 31) ["cell"] (spD g__law_right) := by
  refine fn_D T.d__law_right.F sc__law_right (fun ds d h => by obtain ⟨_, rfl, _⟩ := h; rfl) (fun cdv Γ below s B H vs ds d Q E hg hr e ra hd ret => ?_)
  obtain ⟨c, rfl, rfl⟩ := hd
  rcases ra with _ | ⟨r1, _ | _⟩
  cases r1
  have hu := hr.units
  have hf := frOk c
  refine ⟨_, (pss_cons (ps_set (i := 1) sc__law_right.nd rfl (by first | exact Or.inl rfl | exact Or.inr rfl) (pe_go (ok__law_frame T) hg (hr.mono (by decide)) rfl T.d__law_frame.at_ T.d__law_frame.F.kp (bn__law_frame T) pass0 (pa_cons (pv 0) pa_nil))) (pss_cons (ps_par (i := 2) (j := 3) rfl sc__law_right.nd rfl rfl (by decide) rfl rfl (pa_cons (pe_go (ok__law_setting T) hg (hr.mono (by decide)) rfl T.d__law_setting.at_ T.d__law_setting.F.kp (bn__law_setting T) pass0 (pa_cons (pv 0) (pa_cons (pv 1) pa_nil))) (pa_cons (pe_tup (pa_cons (pe_go (ok__law_width T) hg (hr.mono (by decide)) rfl T.d__law_width.at_ T.d__law_width.F.kp (bn__law_width T) pass0 (pa_cons (pv 0) (pa_cons pe_int pa_nil))) (pa_cons (pe_go (ok__law_width T) hg (hr.mono (by decide)) rfl T.d__law_width.at_ T.d__law_width.F.kp (bn__law_width T) pass0 (pa_cons (pv 0) (pa_cons pe_int pa_nil))) pa_nil))) pa_nil)) rfl) (pss_cons (ps_if (PW.pt (pw_and (pt_cmpR (k_eq (K := K) rfl hu) (pe_ix (k_ix (K := K) rfl) (pv 1) pe_int (fun _ _ => rfl)) (pe_ix (k_ix (K := K) rfl) (pv 1) pe_int (fun _ _ => rfl)) (nomark _)) (pw_and1 (pt_cmpR (k_eq (K := K) rfl hu) (pe_go (ok__law_draw T) hg (hr.mono (by decide)) rfl T.d__law_draw.at_ T.d__law_draw.F.kp (bn__law_draw T) pass0 (pa_cons (pv 0) (pa_cons pe_int (pa_cons pe_int pa_nil)))) pe_int (nomark _))))) (pss_one (ps_par (i := 2) (j := 3) rfl sc__law_right.nd rfl rfl (by decide) rfl rfl (pa_cons (pe_tup (pa_cons (pe_ix (k_ix (K := K) rfl) (pv 2) pe_int (fun _ _ => rfl)) (pa_cons (pe_ix (k_ix (K := K) rfl) (pe_lst (pa_cons (pe_callTy (k_list (K := K) rfl) rfl T.n_list (by decide +kernel) (pa_cons (pe_ix (k_ix (K := K) rfl) (pv 2) pe_int (fun _ _ => rfl)) pa_nil)) (pa_cons (pe_ix (k_ix (K := K) rfl) (pv 2) pe_int (fun _ _ => rfl)) pa_nil))) (pe_go (ok__law_draw T) hg (hr.mono (by decide)) rfl T.d__law_draw.at_ T.d__law_draw.F.kp (bn__law_draw T) pass0 (pa_cons (pv 0) (pa_cons pe_int (pa_cons pe_int pa_nil)))) (fun _ _ => rfl)) pa_nil))) (pa_cons (pe_tup (pa_cons (pe_ix (k_ix (K := K) rfl) (pv 3) pe_int (fun _ _ => rfl)) (pa_cons (pe_ix (k_ix (K := K) rfl) (pv 3) pe_int (fun _ _ => rfl)) pa_nil))) pa_nil)) rfl)) pss_nil) (pss_cons (ps_set (i := 4) sc__law_right.nd rfl (by first | exact Or.inl rfl | exact Or.inr rfl) (pe_callB (c_repr hg hu) rfl T.n_repr (by decide +kernel) (pa_cons (pv 2) pa_nil))) (pss_cons (ps_set (i := 5) sc__law_right.nd rfl (by first | exact Or.inl rfl | exact Or.inr rfl) (pe_tup (pa_cons (pe_go (ok__law_closed T) hg (hr.mono (by decide)) rfl T.d__law_closed.at_ T.d__law_closed.F.kp (bn__law_closed T) pass0 (pa_cons (pe_ix (k_ix (K := K) rfl) (pv 2) pe_int (fun _ _ => rfl)) (pa_cons (pe_ix (k_ix (K := K) rfl) (pv 3) pe_int (fun _ _ => rfl)) pa_nil))) (pa_cons (pe_go (ok__law_closed T) hg (hr.mono (by decide)) rfl T.d__law_closed.at_ T.d__law_closed.F.kp (bn__law_closed T) pass0 (pa_cons (pe_ix (k_ix (K := K) rfl) (pv 2) pe_int (fun _ _ => rfl)) (pa_cons (pe_ix (k_ix (K := K) rfl) (pv 3) pe_int (fun _ _ => rfl)) pa_nil))) pa_nil)))) (pss_cons (ps_set (i := 6) sc__law_right.nd rfl (by first | exact Or.inl rfl | exact Or.inr rfl) (pe_go (ok_closed T) hg (hr.mono (by decide)) rfl T.d_closed.at_ T.d_closed.F.kp (bn_closed T) pass0 (pa_cons (pv 1) (pa_cons (pv 2) (pa_cons (pv 3) pa_nil))))) (pss_cons (ps_if (PW.pt (pw_or (pt_not (pt_val (pe_callB (k_isi (K := K) rfl) rfl T.n_isinstance (by decide +kernel) (pa_cons (pv 6) (pa_cons (pe_bltn (v := .ty "tuple") rfl T.n_tuple (by decide +kernel) rfl) pa_nil))))) (pw_or1 (pt_not (pt_val (pe_go (ok__law_same T) hg (hr.mono (by decide)) rfl T.d__law_same.at_ T.d__law_same.F.kp (bn__law_same T) pass0 (pa_cons (pv 6) (pa_cons (pv 5) pa_nil)))))))) (pss_one (ps_ret pe_bl)) pss_nil) (pss_cons (ps_set (i := 7) sc__law_right.nd rfl (by first | exact Or.inl rfl | exact Or.inr rfl) (pe_ix (k_ix (K := K) rfl) (pv 6) pe_int (fun _ _ => rfl))) (pss_cons (ps_asg (pe_op op_addA (pe_ix (k_ix (K := K) rfl) (pv 7) pe_int (fun _ _ => rfl)) pe_int) (pg_sub (pv 7) pe_int set_list)) (pss_cons (ps_if (PW.pt (pw_or (pt_cmpR (k_ne (K := K) rfl hu) (pe_ix (k_ix (K := K) rfl) (pv 6) pe_int (fun _ _ => rfl)) (pe_ix (k_ix (K := K) rfl) (pv 5) pe_int (fun _ _ => rfl)) (nomark _)) (pw_or1 (pt_not (pt_val (pe_go (ok__law_same T) hg (hr.mono (by decide)) rfl T.d__law_same.at_ T.d__law_same.F.kp (bn__law_same T) pass0 (pa_cons (pe_go (ok_closed T) hg (hr.mono (by decide)) rfl T.d_closed.at_ T.d_closed.F.kp (bn_closed T) pass0 (pa_cons (pv 1) (pa_cons (pe_go (ok_plain T) hg (hr.mono (by decide)) rfl T.d_plain.at_ T.d_plain.F.kp (bn_plain T) pass0 (pa_cons (pv 1) (pa_cons (pv 2) pa_nil))) (pa_cons (pv 3) pa_nil)))) (pa_cons (pv 5) pa_nil)))))))) (pss_one (ps_ret pe_bl)) pss_nil) (pss_cons (ps_expr (pe_bm PySem.F.plainAttrs_list PySem.F.slot_list_append PySem.F.type_list_append mt_append (pe_ix (k_ix (K := K) rfl) (pv 6) pe_int (fun _ _ => rfl)) (pa_cons pe_int pa_nil))) (pss_cons (ps_set (i := 8) sc__law_right.nd rfl (by first | exact Or.inl rfl | exact Or.inr rfl) (pe_tup (pa_cons (pe_callB (c_min rfl) rfl T.n_min (by decide +kernel) (pa_cons pe_int (pa_cons (pe_op op_addA (pe_ix (k_ix (K := K) rfl) (pv 3) pe_int (fun _ _ => rfl)) (pe_go (ok__law_draw T) hg (hr.mono (by decide)) rfl T.d__law_draw.at_ T.d__law_draw.F.kp (bn__law_draw T) pass0 (pa_cons (pv 0) (pa_cons pe_int (pa_cons pe_int pa_nil))))) pa_nil))) (pa_cons pe_int pa_nil)))) (pss_cons (ps_if (PW.pt (pw_or (pt_not (pt_val (pe_go (ok__law_same T) hg (hr.mono (by decide)) rfl T.d__law_same.at_ T.d__law_same.F.kp (bn__law_same T) pass0 (pa_cons (pe_goN (ok_closed T) hg (hr.mono (by decide)) rfl T.d_closed.at_ T.d_closed.F.kp (kb_closed_0 T) pass0 (pk_cons (pv 3) (pk_cons (pv 2) (pk_cons (pv 1) pk_nil)))) (pa_cons (pv 5) pa_nil))))) (pw_or1 (pt_cmpR (k_ne (K := K) rfl hu) (pe_callB (c_repr hg hu) rfl T.n_repr (by decide +kernel) (pa_cons (pv 2) pa_nil)) (pv 4) (nomark _))))) (pss_one (ps_ret pe_bl)) pss_nil) (pss_one (ps_ret (pe_and (pe_go (ok__law_same T) hg (hr.mono (by decide)) rfl T.d__law_same.at_ T.d__law_same.F.kp (bn__law_same T) pass0 (pa_cons (pe_go (ok_closed T) hg (hr.mono (by decide)) rfl T.d_closed.at_ T.d_closed.F.kp (bn_closed T) pass0 (pa_cons (pv 1) (pa_cons (pv 5) (pa_cons (pv 3) pa_nil)))) (pa_cons (pv 5) pa_nil))) (pe_one (pe_go (ok__law_same T) hg (hr.mono (by decide)) rfl T.d__law_same.at_ T.d__law_same.F.kp (bn__law_same T) pass0 (pa_cons (pe_go (ok_closed T) hg (hr.mono (by decide)) rfl T.d_closed.at_ T.d_closed.F.kp (bn_closed T) pass0 (pa_cons (pv 1) (pa_cons (pv 5) (pa_cons (pv 8) pa_nil)))) (pa_cons (pv 5) pa_nil)))))))))))))))))))), ?_⟩
  refine s_seq (s_asg e (ev_call (by walk_at "u_ea") ⟨c, rfl, rfl⟩) fun v1 B1 H1 n1 rp => ?_)
  walk_at "u_n"
  have w0 := wdt_lt c 60
  have w1 := wdt_lt c 63
  refine s_seq (s_par (x := eSet (pt0 c) (pt1 c)) (y := eFr (wdt c 60) (wdt c 63)) n1.sub (ea_cons (ev_call (by walk_at "u_ea") ⟨c, rfl, rfl⟩) (ea_cons (ev_tup (ea_cons (ev_call (by walk_at "u_ea") ⟨c, 60, rfl, by decide, by decide, rfl⟩) (ea_cons (ev_call (by walk_at "u_ea") ⟨c, 63, rfl, by decide, by decide, rfl⟩) ea_nil)) (by simp)) ea_nil)) fun v2 v3 B2 H2 n2 rs rw => ?_)
  walk_at "u_n"
  have hp0 : (pt0 c).length = (fr0 c).toNat := vals_len _ _ _
  have hq0 : (pt1 c).length = (fr1 c).toNat := vals_len _ _ _
  have N2 := n1.trans n2
  have rp2 := rp.mono n2.ext
  refine s_seq (s_if_cut (b := decide (fr0 c = fr1 c) && decide (draw c 67 2 = 0)) (fun σ3 H3 => ∃ (B3 : Hp) (q : List Int) (cc dd : Int) (u2 u3 : V), σ3 = [some (.int c), some v1, some u2, some u3, none, none, none, none, none] ∧ New B H B3 H3 ∧ R B3 v1 (eFr (fr0 c) (fr1 c)) ∧ R B3 u2 (eSet (pt0 c) q) ∧ R B3 u3 (eFr cc dd) ∧ SetOk (fr0 c) (fr1 c) (pt0 c) q ∧ WdOk cc dd ∧ ∀ x ∈ q, x.natAbs < 10 ^ 33)
    n2.sub (ec_and (ec_t (ev_op (ev_op (by walk_at "u_ev") ev_i (rv_ixT rfl)) (ev_op (by walk_at "u_ev") ev_i (rv_ixT rfl)) (rv_inl rv_eqI))) fun _ => ec_t (ev_op (ev_call (by walk_at "u_ea") ⟨c, 67, 2, rfl, by decide, by decide, by decide, rfl⟩) ev_i (rv_inl rv_eqI))) ?_ (fun hb H3 u3 D' hM => ?_) (fun hb H3 u3 => ?_))
  rotate_left
  · have d3 := draw_lt (c := c) (k := 68) (l := 2) (by decide)
    have h1 : fr0 c = fr1 c := by simp at hb; exact hb.1
    refine s_par (x := eSet (pt0 c) (pt0 c)) (y := eFr (wdt c 60) (wdt c 60)) u3.sub (ea_cons (ev_tup (ea_cons (ev_op (by walk_at "u_ev") ev_i (rv_ixT rfl)) (ea_cons (ev_op (x := .lst [eI (pt0 c), eI (pt0 c)]) (ev_lst (ea_cons (ev_cb (ea_cons (ev_op (by walk_at "u_ev") ev_i (rv_ixT rfl)) ea_nil) rl_list) (ea_cons (ev_op (by walk_at "u_ev") ev_i (rv_ixT rfl)) ea_nil)) (by simp)) (ev_call (by walk_at "u_ea") ⟨c, 68, 2, rfl, by decide, by decide, by decide, rfl⟩) (rv_ixL (atI_two d3.1 d3.2))) ea_nil)) (by simp))
      (ea_cons (ev_tup (ea_cons (ev_op (by walk_at "u_ev") ev_i (rv_ixT rfl)) (ea_cons (ev_op (by walk_at "u_ev") ev_i (rv_ixT rfl)) ea_nil)) (by simp)) ea_nil)) fun z2 z3 B4 H4 n4 q2 q3 => hM _ _ ⟨B4, pt0 c, wdt c 60, wdt c 60, z2, z3, rfl, (N2.trans u3.new).trans n4, rp2.mono n4.ext, q2, q3, ⟨by omega, by omega, hf⟩, ⟨w0.1, w0.2, w0.1, w0.2⟩, vals_lt _ _ _⟩
  · exact ⟨B2, pt1 c, wdt c 60, wdt c 63, v2, v3, rfl, N2.trans u3.new, rp2, rs, rw, ⟨by omega, by omega, hf⟩, ⟨w0.1, w0.2, w1.1, w1.2⟩, vals_lt _ _ _⟩
  clear rs rw
  rintro σ3 H3 ⟨B3, q, cc, dd, u2, u3, rfl, N3, rp3, rs, rw, ok, okw, lq⟩
  have lp : ∀ x ∈ pt0 c, x.natAbs < 10 ^ 33 := vals_lt _ _ _
  generalize pt0 c = p at *
  have lenp : p.length ≤ 3 := by have := ok.1; omega
  have lenq : q.length ≤ 3 := by have := ok.2.1; omega
  have np : p ≠ [] := fun z => by have := ok.1; rw [z] at this; simp at this; omega
  have nq : q ≠ [] := fun z => by have := ok.2.1; rw [z] at this; simp at this; omega
  have hc0 := okw.1
  have hd0 := okw.2.2.1
  have fitP : Fit (eSet p q) := fit_eSet (fun x hx => Nat.lt_trans (lp x hx) (by decide)) (fun x hx => Nat.lt_trans (lq x hx) (by decide)) (by omega) (by omega)
  have fitD : Fit (eSet (cloR cc p) (cloR dd q)) := fit_eSet (fun x hx => Nat.lt_trans (cloR_lt hc0 lp x hx) (by decide)) (fun x hx => Nat.lt_trans (cloR_lt hd0 lq x hx) (by decide)) (by rw [cloR_len]; omega) (by rw [cloR_len]; omega)
  walk_at "u_n"
  refine s_seq (s_asg N3.sub (ev_cb (by walk_at "u_ea") (rl_reprD rfl fitP)) fun v4 B4 H4 n4 r4 => ?_)
  cases r4
  walk_at "u_n"
  refine s_seq (s_asg (d := eSet (cloR cc p) (cloR dd q)) n4.sub (ev_tup (ea_cons (ev_call (ds := [eI p, .int cc]) (ea_cons (ev_op (by walk_at "u_ev") ev_i (rv_ixT rfl)) (ea_cons (ev_op (by walk_at "u_ev") ev_i (rv_ixT rfl)) ea_nil)) ⟨p, cc, rfl, np, by omega, hc0, rfl⟩) (ea_cons (ev_call (ds := [eI q, .int dd]) (ea_cons (ev_op (by walk_at "u_ev") ev_i (rv_ixT rfl)) (ea_cons (ev_op (by walk_at "u_ev") ev_i (rv_ixT rfl)) ea_nil)) ⟨q, dd, rfl, nq, by omega, hd0, rfl⟩) ea_nil)) (by simp)) fun v5 B5 H5 n5 r5 => ?_)
  walk_at "u_n"
  refine s_seq (go_closed n5.sub (by walk_at "u_ea") ok okw fun t l m B6 H6 n6 pr => ?_)
  walk_at "u_n"
  have ht : t ≠ l := fun z => by have h := pr.th; rw [z, pr.lo.h] at h; cases h
  have hm : t ≠ m := fun z => by have h := pr.th; rw [z, pr.mo.h] at h; cases h
  obtain ⟨Bp, x1, x2, rt, _⟩ := pair_data n6.sub pr
  refine s_seq (s_if (b := !true || !true) x2 (ec_or (ec_not (ec_v (ev_isi (ev_v rfl rt) (show kitB "tuple" "tuple" = some true by decide +kernel)))) fun _ => ec_not (ec_v (ev_call (ea_cons (ev_v rfl rt) (ea_cons (ev_v rfl ((r5.mono n6.ext).mono x1)) ea_nil)) (same_yes rfl fitD)))) (fun z => nomatch z) (fun _ H7 u7 => ?_))
  walk_at "u_n"
  have th7 := u7.heap _ _ pr.th
  have lo7 := pr.lo.up u7.heap
  have mo7 := pr.mo.up u7.heap
  have N5 := (N3.trans n4).trans n5
  have N6 := N5.trans n6
  have N7 : New B H B6 H7 := N6.trans (New.grow (n6.sub.trans u7.heap) u7.heap n6.sub)
  have r5c := r5.mono n6.ext
  have rsc := ((rs.mono n4.ext).mono n5.ext).mono n6.ext
  have rpc := ((rp3.mono n4.ext).mono n5.ext).mono n6.ext
  have rwc := ((rw.mono n4.ext).mono n5.ext).mono n6.ext
  obtain ⟨z0, zs, hz⟩ := List.exists_cons_of_ne_nil (show cloR cc p ≠ [] from fun z => by have := cloR_len cc p; rw [z] at this; exact np (List.length_eq_zero_iff.mp this.symm))
  -- row = told[0]
  refine s_seq (show tAsg _ (gName 7) _ _ _ from ⟨_, rfl, .inr (.inl ⟨t, [.ref l, .ref m], 0, .ref l, rfl, rfl, st_of th7, rfl, ?_⟩)⟩)
  walk_at "u_n"
  -- row[0] = row[0] + 1
  rw [hz] at lo7
  refine s_seq (show tAsg _ (gSub _ _ _) _ _ _ from ⟨_, rfl, .inl ⟨l, _, 0, .int z0, rfl, rfl, sq_of lo7.h, atI_hd, .inl ⟨z0, 1, rfl, rfl, _, rfl, l, _, 0, 0, rfl, rfl, lo7.h, ixN_0, ?_⟩⟩⟩)
  walk_at "u_n"
  generalize eH8 : upd H7 l _ = H8
  have th8 : H8 t = some (.tup [.ref l, .ref m]) := by rw [← eH8, upd_ne ht]; exact th7
  have mo8 : Own H5 B6 H8 m ((cloR dd q).map V.int) := by rw [← eH8]; exact mo7.other pr.ne.symm
  have N8 : New B H B6 H8 := by
    rw [← eH8]
    exact N7.put (xs := (z0 :: zs).map V.int) ⟨Evl.fresh_back N5.heap lo7.h0, lo7.b, lo7.h⟩
  -- told[1] != due[1] or not _law_same(closed(plane, plain(..), span), due)
  have em : Ex B6 (upd (upd B6 t (.tup [.ref l, .ref m])) m (.lst ((cloR dd q).map V.int))) := (Evl.Ex.new pr.tb).trans (Evl.Ex.new (by rw [upd_ne hm.symm]; exact mo8.b))
  have em8 : Ex (upd (upd B6 t (.tup [.ref l, .ref m])) m (.lst ((cloR dd q).map V.int))) H8 := by
    intro a u h
    by_cases a1 : a = m
    · rw [a1, upd_same] at h; rw [a1, ← h]; exact mo8.h
    · rw [upd_ne a1] at h
      by_cases a2 : a = t
      · rw [a2, upd_same] at h; rw [a2, ← h]; exact th8
      · rw [upd_ne a2] at h; exact N8.sub a u h
  have okP : SetOk (fr0 c) (fr1 c) (plainR p) (plainR q) := ⟨by rw [plainR_len]; exact ok.1, by rw [plainR_len]; exact ok.2.1, hf⟩
  refine s_seq (s_if (b := !PyData.eqv (eI (cloR dd q)).py (eI (cloR dd q)).py || !true) em8 (ec_or (ec_t (ev_op (ev_ixRaw (d := eI (cloR dd q)) rfl (by rw [upd_ne hm, upd_same]) rfl (.lst upd_same (RA.ints _))) (ev_op (ev_v rfl (r5c.mono em)) ev_i (rv_ixT rfl)) (rv_inr (rv_neD shaped_eI shaped_eI)))) fun _ => ec_not (ec_v (ev_call (ea_cons
    (EvR.is (ev_closed (ea_cons (ev_v rfl (rpc.mono em)) (ea_cons (ev_plain (ea_cons (ev_v rfl (rpc.mono em)) (ea_cons (ev_v rfl (rsc.mono em)) ea_nil)) ok) (ea_cons (ev_v rfl (rwc.mono em)) ea_nil))) okP okw) (by rw [cloR_plain, cloR_plain])) (ea_cons (ev_v rfl (r5c.mono em)) ea_nil)) (same_yes rfl fitD)))) (fun z => ?_) (fun _ H9 u9 => ?_))
  · rw [eqv_self] at z; cases z
  walk_at "u_n"
  have th9 := u9.heap _ _ th8
  have mo9 : Own H5 B6 H9 m ((cloR dd q).map V.int) := mo8.up u9.heap
  have N9 : New B H B6 H9 := N8.trans ((Up.mk N8.sub (em.trans u9.sub) u9.heap).new)
  -- told[1].append(0)
  refine ⟨_, rfl, .inr (.inl ⟨t, [.ref l, .ref m], 1, .ref m, rfl, rfl, st_of th9, rfl, .inl ⟨rfl, _, .inl (.inl mo9.h)⟩, ⟨m, _, .int 0, rfl, rfl, mo9.h, ?_, ?_⟩⟩)⟩
  · rw [List.length_map, cloR_len]; exact sz_lt (by omega)
  walk_at "u_n"
  generalize eH10 : upd H9 m (.lst ((cloR dd q).map V.int ++ [V.int 0])) = H10
  have N10 : New B H B6 H10 := by
    rw [← eH10]
    exact N9.put (xs := (cloR dd q).map V.int) ⟨Evl.fresh_back N5.heap mo9.h0, mo9.b, mo9.h⟩
  -- wider
  have d1 := draw_lt (c := c) (k := 66) (l := 9) (by decide)
  obtain ⟨ww, hww, hw1, hw2⟩ : ∃ ww : Int, (if cc + draw c 66 9 < 40 then cc + draw c 66 9 else 40) = ww ∧ cc ≤ ww ∧ ww ≤ 40 := ⟨_, rfl, by have := okw.2.1; split <;> omega, by split <;> omega⟩
  refine s_seq (s_asg (d := eFr ww 40) N10.sub (ev_tup (ea_cons (EvR.is (ev_cb (ea_cons ev_i (ea_cons (ev_op (ev_op (ev_v rfl rwc) ev_i (rv_ixT rfl)) (ev_call (by walk_at "u_ea") ⟨c, 66, 9, rfl, by decide, by decide, by decide, rfl⟩) (rv_inl rv_add)) ea_nil)) rl_min2) (show Dt.int _ = Dt.int ww by rw [← hww])) (ea_cons ev_i ea_nil)) (by simp)) fun v8 B11 H11 n11 r8 => ?_)
  walk_at "u_n"
  have N11 := N10.trans n11
  have okC : SetOk (fr0 c) (fr1 c) (cloR cc p) (cloR dd q) := ⟨by rw [cloR_len]; exact ok.1, by rw [cloR_len]; exact ok.2.1, hf⟩
  -- the call by names, and what was passed
  refine s_seq (s_if (b := !true || !decide ((eSet p q).py.shown = (eSet p q).py.shown)) n11.sub (ec_or (ec_not (ec_v (ev_call (ea_cons (ev_closedK (gD := kb_closed_0_d) ea_nil (ea_cons (ev_v rfl (rwc.mono n11.ext)) (ea_cons (ev_v rfl (rsc.mono n11.ext)) (ea_cons (ev_v rfl (rpc.mono n11.ext)) ea_nil))) (fun _ _ _ _ _ r1 r2 => kb_closed_0_reld r1 r2) rfl ok okw) (ea_cons (ev_v rfl (r5c.mono n11.ext)) ea_nil)) (same_yes rfl fitD)))) fun _ => ec_t (ev_op (ev_cb (ea_cons (ev_v rfl (rsc.mono n11.ext)) ea_nil) (rl_reprD rfl fitP)) (ev_v rfl (.str _)) (rv_inl rv_neS))) (fun z => ?_) (fun _ H12 u12 => ?_))
  · simp at z
  walk_at "u_n"
  have N12 := N11.trans u12.new
  refine s_retE u12.sub (x := .bl (true && true)) (ev_and (ev_call (ea_cons (EvR.is (ev_closed (ea_cons (ev_v rfl (rpc.mono n11.ext)) (ea_cons (ev_v rfl (r5c.mono n11.ext)) (ea_cons (ev_v rfl (rwc.mono n11.ext)) ea_nil))) okC okw) (by rw [cloR_cloR hc0 (Int.le_refl _), cloR_cloR hd0 (Int.le_refl _)])) (ea_cons (ev_v rfl (r5c.mono n11.ext)) ea_nil)) (same_yes rfl fitD))
    fun _ => ev_call (ea_cons (EvR.is (ev_closed (ea_cons (ev_v rfl (rpc.mono n11.ext)) (ea_cons (ev_v rfl (r5c.mono n11.ext)) (ea_cons (ev_v rfl r8) ea_nil))) okC ⟨by omega, hw2, by omega, by omega⟩) (by rw [cloR_cloR hc0 hw1, cloR_cloR hd0 okw.2.2.2])) (ea_cons (ev_v rfl (r5c.mono n11.ext)) ea_nil)) (same_yes rfl fitD)) rfl (fun v Bz Hz nz rv => ret v Bz Hz (N12.trans nz) rv)

def spLaw (K : PySem.W.Frag) : Sp := fun vs H Q _ => ∃ (a : Addr) (ns : List Int), vs = [.ref a] ∧ Scr K a ns H ∧ ns.length ≤ 63 ∧ ∀ H', Q (.bl true) H'
theorem ok_law (T : Txt K mg fa fd) : FnG P w K mg base CX0 8 (fa 32) (fd 32) ["script"] (spLaw K) := by
  refine fn_S T.d_law.F sc_law (fun vs H Q E h => by obtain ⟨_, _, rfl, _⟩ := h; rfl) (fun cdv Γ below s H vs Q E hg hr h => ?_)
  obtain ⟨a, ns, rfl, ⟨hs, _⟩, hl, ret⟩ := h
  refine ⟨_, (pss_one (ps_ret (pe_callB (k_all (K := K) rfl rfl) rfl T.n_all (by decide +kernel) (pa_cons (pe_lc (own := [("k", 1)]) (g := (gName 1)) (tt := tYes) rfl sc_law.nd (pi_range1 rfl T.n_range (pa_cons (pe_callB (c_max rfl) rfl T.n_max (by decide +kernel) (pa_cons pe_int (pa_cons (pe_callB (c_min rfl) rfl T.n_min (by decide +kernel) (pa_cons pe_int (pa_cons (pe_callB (k_len (K := K) rfl) rfl T.n_len (by decide +kernel) (pa_cons (pv 0) pa_nil)) pa_nil))) pa_nil))) pa_nil)) (blkOk_by (N := ["script", "k"]) (sc := defScope s_law) (by decide +kernel)) (fun _ _ _ _ _ => (pg_name (i := 1) sc_law.nd rfl (by first | exact Or.inl rfl | exact Or.inr rfl))) (fun _ _ _ _ _ => pts_nil) (fun _ _ _ _ _ => (pe_go (ok__law_right T) hg (hr.mono (by decide)) rfl T.d__law_right.at_ T.d__law_right.F.kp (bn__law_right T) pass0 (pa_cons (pe_go (ok__law_cell T) hg (hr.mono (by decide)) rfl T.d__law_cell.at_ T.d__law_cell.F.kp (bn__law_cell T) pass0 (pa_cons (pv 0) (pa_cons (pv 1) pa_nil))) pa_nil)))) pa_nil)))), ?_⟩
  refine s_retE (Ex.refl H) (ev_cb (ea_cons (ev_lcR1 (f := fun i => .bl ((fun _ => true) i)) (ea_cons (ev_cb (ea_cons ev_i (ea_cons (ev_cb (ea_cons ev_i (ea_cons (ev_lenS rfl hs) ea_nil)) rl_min2) ea_nil)) rl_max2) ea_nil) ?_ (fun _ => rfl) (fun i B1 hi e1 => ?_)) ea_nil) (rl_all (p := fun _ => true))) (d := .bl true) (by simp) (fun v B1 H2 n1 rv => by cases rv; exact ret H2)
  · constructor
    · split <;> split <;> omega
    · split <;> split <;> omega
  · exact ev_call (ea_cons (ev_cell rfl (Evl.ex_l e1 hs) (ev_v rfl (.int _)) (by omega)) ea_nil) ⟨_, rfl, rfl⟩

end
theorem all_mk {l : PySem.W.OpenLaw} {w : World} {K : PySem.W.Frag} {h : Heap} {mg : Str → Option Value} {fL f7 f8 f9 f10 f13 f14 f15 f16 f17 f18 f19 f20 f22 f23 f24 f25 f26 f28 f29 f30 f31 f32 : Addr} (X : K.In h) (G : h.Ns mainGlobals mg) (hfa : mg "law" = some (.ref fL))
    {od7 an7 od8 an8 od9 an9 od10 an10 od13 an13 od14 an14 od15 an15 od16 an16 od17 an17 od18 an18 od19 an19 od20 an20 od22 an22 od23 an23 od24 an24 od25 an25 od26 an26 od28 an28 od29 an29 od30 an30 od31 an31 od32 an32 : Option Addr} {sl7 sl8 sl9 sl10 sl13 sl14 sl15 sl16 sl17 sl18 sl19 sl20 sl22 sl23 sl24 sl25 sl26 sl28 sl29 sl30 sl31 sl32 : Array (Option Value)} {oc7 kV7 dc7 pm7 cd7 ct7 oc8 kV8 dc8 pm8 cd8 ct8 oc9 kV9 dc9 pm9 cd9 ct9 oc10 kV10 dc10 pm10 cd10 ct10 oc13 kV13 dc13 pm13 cd13 ct13 oc14 kV14 dc14 pm14 cd14 ct14 oc15 kV15 dc15 pm15 cd15 ct15 oc16 kV16 dc16 pm16 cd16 ct16 oc17 kV17 dc17 pm17 cd17 ct17 oc18 kV18 dc18 pm18 cd18 ct18 oc19 kV19 dc19 pm19 cd19 ct19 oc20 kV20 dc20 pm20 cd20 ct20 oc22 kV22 dc22 pm22 cd22 ct22 oc23 kV23 dc23 pm23 cd23 ct23 oc24 kV24 dc24 pm24 cd24 ct24 oc25 kV25 dc25 pm25 cd25 ct25 oc26 kV26 dc26 pm26 cd26 ct26 oc28 kV28 dc28 pm28 cd28 ct28 oc29 kV29 dc29 pm29 cd29 ct29 oc30 kV30 dc30 pm30 cd30 ct30 oc31 kV31 dc31 pm31 cd31 ct31 oc32 kV32 dc32 pm32 cd32 ct32 : Value} {t_MOST_UNKNOWNS t_MOST_WIDTH : Tok}
    (a_7 : PySem.W.nsIn K mainGlobals "is_within" = some (some (.ref f7))) (l_7 : K.lookup f7 = some ⟨oc7, od7, .func (PySem.W.fnOf "is_within" "is_within" (defArgs s_is_within) (defBody s_is_within) (defScope s_is_within) .none kV7 dc7 pm7 an7 cd7 ct7), sl7⟩) (c_7 : PySem.W.codeIn K cd7 "is_within" = true) (k_7 : PySem.W.keepIn K (.ref f7) = true)
    (a_8 : PySem.W.nsIn K mainGlobals "is_tuple_of" = some (some (.ref f8))) (l_8 : K.lookup f8 = some ⟨oc8, od8, .func (PySem.W.fnOf "is_tuple_of" "is_tuple_of" (defArgs s_is_tuple_of) (defBody s_is_tuple_of) (defScope s_is_tuple_of) .none kV8 dc8 pm8 an8 cd8 ct8), sl8⟩) (c_8 : PySem.W.codeIn K cd8 "is_tuple_of" = true) (k_8 : PySem.W.keepIn K (.ref f8) = true)
    (a_9 : PySem.W.nsIn K mainGlobals "is_frame" = some (some (.ref f9))) (l_9 : K.lookup f9 = some ⟨oc9, od9, .func (PySem.W.fnOf "is_frame" "is_frame" (defArgs s_is_frame) (defBody s_is_frame) (defScope s_is_frame) .none kV9 dc9 pm9 an9 cd9 ct9), sl9⟩) (c_9 : PySem.W.codeIn K cd9 "is_frame" = true) (k_9 : PySem.W.keepIn K (.ref f9) = true)
    (a_10 : PySem.W.nsIn K mainGlobals "need_frame" = some (some (.ref f10))) (l_10 : K.lookup f10 = some ⟨oc10, od10, .func (PySem.W.fnOf "need_frame" "need_frame" (defArgs s_need_frame) (defBody s_need_frame) (defScope s_need_frame) .none kV10 dc10 pm10 an10 cd10 ct10), sl10⟩) (c_10 : PySem.W.codeIn K cd10 "need_frame" = true) (k_10 : PySem.W.keepIn K (.ref f10) = true)
    (a_13 : PySem.W.nsIn K mainGlobals "is_row" = some (some (.ref f13))) (l_13 : K.lookup f13 = some ⟨oc13, od13, .func (PySem.W.fnOf "is_row" "is_row" (defArgs s_is_row) (defBody s_is_row) (defScope s_is_row) .none kV13 dc13 pm13 an13 cd13 ct13), sl13⟩) (c_13 : PySem.W.codeIn K cd13 "is_row" = true) (k_13 : PySem.W.keepIn K (.ref f13) = true)
    (a_14 : PySem.W.nsIn K mainGlobals "is_setting" = some (some (.ref f14))) (l_14 : K.lookup f14 = some ⟨oc14, od14, .func (PySem.W.fnOf "is_setting" "is_setting" (defArgs s_is_setting) (defBody s_is_setting) (defScope s_is_setting) .none kV14 dc14 pm14 an14 cd14 ct14), sl14⟩) (c_14 : PySem.W.codeIn K cd14 "is_setting" = true) (k_14 : PySem.W.keepIn K (.ref f14) = true)
    (a_15 : PySem.W.nsIn K mainGlobals "need_setting" = some (some (.ref f15))) (l_15 : K.lookup f15 = some ⟨oc15, od15, .func (PySem.W.fnOf "need_setting" "need_setting" (defArgs s_need_setting) (defBody s_need_setting) (defScope s_need_setting) .none kV15 dc15 pm15 an15 cd15 ct15), sl15⟩) (c_15 : PySem.W.codeIn K cd15 "need_setting" = true) (k_15 : PySem.W.keepIn K (.ref f15) = true)
    (a_16 : PySem.W.nsIn K mainGlobals "need_widths" = some (some (.ref f16))) (l_16 : K.lookup f16 = some ⟨oc16, od16, .func (PySem.W.fnOf "need_widths" "need_widths" (defArgs s_need_widths) (defBody s_need_widths) (defScope s_need_widths) .none kV16 dc16 pm16 an16 cd16 ct16), sl16⟩) (c_16 : PySem.W.codeIn K cd16 "need_widths" = true) (k_16 : PySem.W.keepIn K (.ref f16) = true)
    (a_17 : PySem.W.nsIn K mainGlobals "plain_row" = some (some (.ref f17))) (l_17 : K.lookup f17 = some ⟨oc17, od17, .func (PySem.W.fnOf "plain_row" "plain_row" (defArgs s_plain_row) (defBody s_plain_row) (defScope s_plain_row) .none kV17 dc17 pm17 an17 cd17 ct17), sl17⟩) (c_17 : PySem.W.codeIn K cd17 "plain_row" = true) (k_17 : PySem.W.keepIn K (.ref f17) = true)
    (a_18 : PySem.W.nsIn K mainGlobals "plain" = some (some (.ref f18))) (l_18 : K.lookup f18 = some ⟨oc18, od18, .func (PySem.W.fnOf "plain" "plain" (defArgs s_plain) (defBody s_plain) (defScope s_plain) .none kV18 dc18 pm18 an18 cd18 ct18), sl18⟩) (c_18 : PySem.W.codeIn K cd18 "plain" = true) (k_18 : PySem.W.keepIn K (.ref f18) = true)
    (a_19 : PySem.W.nsIn K mainGlobals "closed_row" = some (some (.ref f19))) (l_19 : K.lookup f19 = some ⟨oc19, od19, .func (PySem.W.fnOf "closed_row" "closed_row" (defArgs s_closed_row) (defBody s_closed_row) (defScope s_closed_row) .none kV19 dc19 pm19 an19 cd19 ct19), sl19⟩) (c_19 : PySem.W.codeIn K cd19 "closed_row" = true) (k_19 : PySem.W.keepIn K (.ref f19) = true)
    (a_20 : PySem.W.nsIn K mainGlobals "closed" = some (some (.ref f20))) (l_20 : K.lookup f20 = some ⟨oc20, od20, .func (PySem.W.fnOf "closed" "closed" (defArgs s_closed) (defBody s_closed) (defScope s_closed) .none kV20 dc20 pm20 an20 cd20 ct20), sl20⟩) (c_20 : PySem.W.codeIn K cd20 "closed" = true) (k_20 : PySem.W.keepIn K (.ref f20) = true)
    (a_22 : PySem.W.nsIn K mainGlobals "_law_cell" = some (some (.ref f22))) (l_22 : K.lookup f22 = some ⟨oc22, od22, .func (PySem.W.fnOf "_law_cell" "_law_cell" (defArgs s__law_cell) (defBody s__law_cell) (defScope s__law_cell) .none kV22 dc22 pm22 an22 cd22 ct22), sl22⟩) (c_22 : PySem.W.codeIn K cd22 "_law_cell" = true) (k_22 : PySem.W.keepIn K (.ref f22) = true)
    (a_23 : PySem.W.nsIn K mainGlobals "_law_draw" = some (some (.ref f23))) (l_23 : K.lookup f23 = some ⟨oc23, od23, .func (PySem.W.fnOf "_law_draw" "_law_draw" (defArgs s__law_draw) (defBody s__law_draw) (defScope s__law_draw) .none kV23 dc23 pm23 an23 cd23 ct23), sl23⟩) (c_23 : PySem.W.codeIn K cd23 "_law_draw" = true) (k_23 : PySem.W.keepIn K (.ref f23) = true)
    (a_24 : PySem.W.nsIn K mainGlobals "_law_values" = some (some (.ref f24))) (l_24 : K.lookup f24 = some ⟨oc24, od24, .func (PySem.W.fnOf "_law_values" "_law_values" (defArgs s__law_values) (defBody s__law_values) (defScope s__law_values) .none kV24 dc24 pm24 an24 cd24 ct24), sl24⟩) (c_24 : PySem.W.codeIn K cd24 "_law_values" = true) (k_24 : PySem.W.keepIn K (.ref f24) = true)
    (a_25 : PySem.W.nsIn K mainGlobals "_law_frame" = some (some (.ref f25))) (l_25 : K.lookup f25 = some ⟨oc25, od25, .func (PySem.W.fnOf "_law_frame" "_law_frame" (defArgs s__law_frame) (defBody s__law_frame) (defScope s__law_frame) .none kV25 dc25 pm25 an25 cd25 ct25), sl25⟩) (c_25 : PySem.W.codeIn K cd25 "_law_frame" = true) (k_25 : PySem.W.keepIn K (.ref f25) = true)
    (a_26 : PySem.W.nsIn K mainGlobals "_law_setting" = some (some (.ref f26))) (l_26 : K.lookup f26 = some ⟨oc26, od26, .func (PySem.W.fnOf "_law_setting" "_law_setting" (defArgs s__law_setting) (defBody s__law_setting) (defScope s__law_setting) .none kV26 dc26 pm26 an26 cd26 ct26), sl26⟩) (c_26 : PySem.W.codeIn K cd26 "_law_setting" = true) (k_26 : PySem.W.keepIn K (.ref f26) = true)
    (a_28 : PySem.W.nsIn K mainGlobals "_law_closed" = some (some (.ref f28))) (l_28 : K.lookup f28 = some ⟨oc28, od28, .func (PySem.W.fnOf "_law_closed" "_law_closed" (defArgs s__law_closed) (defBody s__law_closed) (defScope s__law_closed) .none kV28 dc28 pm28 an28 cd28 ct28), sl28⟩) (c_28 : PySem.W.codeIn K cd28 "_law_closed" = true) (k_28 : PySem.W.keepIn K (.ref f28) = true)
    (a_29 : PySem.W.nsIn K mainGlobals "_law_same" = some (some (.ref f29))) (l_29 : K.lookup f29 = some ⟨oc29, od29, .func (PySem.W.fnOf "_law_same" "_law_same" (defArgs s__law_same) (defBody s__law_same) (defScope s__law_same) .none kV29 dc29 pm29 an29 cd29 ct29), sl29⟩) (c_29 : PySem.W.codeIn K cd29 "_law_same" = true) (k_29 : PySem.W.keepIn K (.ref f29) = true)
    (a_30 : PySem.W.nsIn K mainGlobals "_law_width" = some (some (.ref f30))) (l_30 : K.lookup f30 = some ⟨oc30, od30, .func (PySem.W.fnOf "_law_width" "_law_width" (defArgs s__law_width) (defBody s__law_width) (defScope s__law_width) .none kV30 dc30 pm30 an30 cd30 ct30), sl30⟩) (c_30 : PySem.W.codeIn K cd30 "_law_width" = true) (k_30 : PySem.W.keepIn K (.ref f30) = true)
    (a_31 : PySem.W.nsIn K mainGlobals "_law_right" = some (some (.ref f31))) (l_31 : K.lookup f31 = some ⟨oc31, od31, .func (PySem.W.fnOf "_law_right" "_law_right" (defArgs s__law_right) (defBody s__law_right) (defScope s__law_right) .none kV31 dc31 pm31 an31 cd31 ct31), sl31⟩) (c_31 : PySem.W.codeIn K cd31 "_law_right" = true) (k_31 : PySem.W.keepIn K (.ref f31) = true)
    (a_32 : PySem.W.nsIn K mainGlobals "law" = some (some (.ref f32))) (l_32 : K.lookup f32 = some ⟨oc32, od32, .func (PySem.W.fnOf "law" "law" (defArgs s_law) (defBody s_law) (defScope s_law) .none kV32 dc32 pm32 an32 cd32 ct32), sl32⟩) (c_32 : PySem.W.codeIn K cd32 "law" = true) (k_32 : PySem.W.keepIn K (.ref f32) = true)
    (g_MOST_UNKNOWNS : PySem.W.nsIn K mainGlobals "MOST_UNKNOWNS" = some (some (.int 3 t_MOST_UNKNOWNS)))
    (g_MOST_WIDTH : PySem.W.nsIn K mainGlobals "MOST_WIDTH" = some (some (.int 40 t_MOST_WIDTH)))
    (z_ValueError : PySem.W.nsIn K mainGlobals "ValueError" = some none)
    (z_abs : PySem.W.nsIn K mainGlobals "abs" = some none)
    (z_all : PySem.W.nsIn K mainGlobals "all" = some none)
    (z_int : PySem.W.nsIn K mainGlobals "int" = some none)
    (z_isinstance : PySem.W.nsIn K mainGlobals "isinstance" = some none)
    (z_len : PySem.W.nsIn K mainGlobals "len" = some none)
    (z_list : PySem.W.nsIn K mainGlobals "list" = some none)
    (z_max : PySem.W.nsIn K mainGlobals "max" = some none)
    (z_min : PySem.W.nsIn K mainGlobals "min" = some none)
    (z_range : PySem.W.nsIn K mainGlobals "range" = some none)
    (z_repr : PySem.W.nsIn K mainGlobals "repr" = some none)
    (z_set : PySem.W.nsIn K mainGlobals "set" = some none)
    (z_sorted : PySem.W.nsIn K mainGlobals "sorted" = some none)
    (z_tuple : PySem.W.nsIn K mainGlobals "tuple" = some none)
    (z_type : PySem.W.nsIn K mainGlobals "type" = some none)
    (z_zip : PySem.W.nsIn K mainGlobals "zip" = some none)
    : ∃ fd : FuncData, (∀ (s : Shared) (v : Value), BindsTo s fd ⟨[v], []⟩ [("script", v)]) ∧ ∀ base : Heap, K.In base → base.Ns mainGlobals mg → FnG l.prog w K mg base CX0 8 fL fd ["script"] (spLaw K) := by
  have e := hfa.symm.trans (PySem.W.mg_of X G a_32)
  cases e
  have T : Txt K mg (fun i => match i with | 7 => f7 | 8 => f8 | 9 => f9 | 10 => f10 | 13 => f13 | 14 => f14 | 15 => f15 | 16 => f16 | 17 => f17 | 18 => f18 | 19 => f19 | 20 => f20 | 22 => f22 | 23 => f23 | 24 => f24 | 25 => f25 | 26 => f26 | 28 => f28 | 29 => f29 | 30 => f30 | 31 => f31 | 32 => fL | _ => 0) (fun i => match i with | 7 => PySem.W.fnOf "is_within" "is_within" (defArgs s_is_within) (defBody s_is_within) (defScope s_is_within) .none kV7 dc7 pm7 an7 cd7 ct7 | 8 => PySem.W.fnOf "is_tuple_of" "is_tuple_of" (defArgs s_is_tuple_of) (defBody s_is_tuple_of) (defScope s_is_tuple_of) .none kV8 dc8 pm8 an8 cd8 ct8 | 9 => PySem.W.fnOf "is_frame" "is_frame" (defArgs s_is_frame) (defBody s_is_frame) (defScope s_is_frame) .none kV9 dc9 pm9 an9 cd9 ct9 | 10 => PySem.W.fnOf "need_frame" "need_frame" (defArgs s_need_frame) (defBody s_need_frame) (defScope s_need_frame) .none kV10 dc10 pm10 an10 cd10 ct10 | 13 => PySem.W.fnOf "is_row" "is_row" (defArgs s_is_row) (defBody s_is_row) (defScope s_is_row) .none kV13 dc13 pm13 an13 cd13 ct13 | 14 => PySem.W.fnOf "is_setting" "is_setting" (defArgs s_is_setting) (defBody s_is_setting) (defScope s_is_setting) .none kV14 dc14 pm14 an14 cd14 ct14 | 15 => PySem.W.fnOf "need_setting" "need_setting" (defArgs s_need_setting) (defBody s_need_setting) (defScope s_need_setting) .none kV15 dc15 pm15 an15 cd15 ct15 | 16 => PySem.W.fnOf "need_widths" "need_widths" (defArgs s_need_widths) (defBody s_need_widths) (defScope s_need_widths) .none kV16 dc16 pm16 an16 cd16 ct16 | 17 => PySem.W.fnOf "plain_row" "plain_row" (defArgs s_plain_row) (defBody s_plain_row) (defScope s_plain_row) .none kV17 dc17 pm17 an17 cd17 ct17 | 18 => PySem.W.fnOf "plain" "plain" (defArgs s_plain) (defBody s_plain) (defScope s_plain) .none kV18 dc18 pm18 an18 cd18 ct18 | 19 => PySem.W.fnOf "closed_row" "closed_row" (defArgs s_closed_row) (defBody s_closed_row) (defScope s_closed_row) .none kV19 dc19 pm19 an19 cd19 ct19 | 20 => PySem.W.fnOf "closed" "closed" (defArgs s_closed) (defBody s_closed) (defScope s_closed) .none kV20 dc20 pm20 an20 cd20 ct20 | 22 => PySem.W.fnOf "_law_cell" "_law_cell" (defArgs s__law_cell) (defBody s__law_cell) (defScope s__law_cell) .none kV22 dc22 pm22 an22 cd22 ct22 | 23 => PySem.W.fnOf "_law_draw" "_law_draw" (defArgs s__law_draw) (defBody s__law_draw) (defScope s__law_draw) .none kV23 dc23 pm23 an23 cd23 ct23 | 24 => PySem.W.fnOf "_law_values" "_law_values" (defArgs s__law_values) (defBody s__law_values) (defScope s__law_values) .none kV24 dc24 pm24 an24 cd24 ct24 | 25 => PySem.W.fnOf "_law_frame" "_law_frame" (defArgs s__law_frame) (defBody s__law_frame) (defScope s__law_frame) .none kV25 dc25 pm25 an25 cd25 ct25 | 26 => PySem.W.fnOf "_law_setting" "_law_setting" (defArgs s__law_setting) (defBody s__law_setting) (defScope s__law_setting) .none kV26 dc26 pm26 an26 cd26 ct26 | 28 => PySem.W.fnOf "_law_closed" "_law_closed" (defArgs s__law_closed) (defBody s__law_closed) (defScope s__law_closed) .none kV28 dc28 pm28 an28 cd28 ct28 | 29 => PySem.W.fnOf "_law_same" "_law_same" (defArgs s__law_same) (defBody s__law_same) (defScope s__law_same) .none kV29 dc29 pm29 an29 cd29 ct29 | 30 => PySem.W.fnOf "_law_width" "_law_width" (defArgs s__law_width) (defBody s__law_width) (defScope s__law_width) .none kV30 dc30 pm30 an30 cd30 ct30 | 31 => PySem.W.fnOf "_law_right" "_law_right" (defArgs s__law_right) (defBody s__law_right) (defScope s__law_right) .none kV31 dc31 pm31 an31 cd31 ct31 | 32 => PySem.W.fnOf "law" "law" (defArgs s_law) (defBody s_law) (defScope s_law) .none kV32 dc32 pm32 an32 cd32 ct32 | _ => PySem.W.fnOf "" "" (defArgs s_law) [] (defScope s_law) .none .none .none .none none .none .none) := {
    d_is_within := ⟨fun_mk (st := s_is_within) l_7 c_7 k_7, PySem.W.mg_of X G a_7⟩
    d_is_tuple_of := ⟨fun_mk (st := s_is_tuple_of) l_8 c_8 k_8, PySem.W.mg_of X G a_8⟩
    d_is_frame := ⟨fun_mk (st := s_is_frame) l_9 c_9 k_9, PySem.W.mg_of X G a_9⟩
    d_need_frame := ⟨fun_mk (st := s_need_frame) l_10 c_10 k_10, PySem.W.mg_of X G a_10⟩
    d_is_row := ⟨fun_mk (st := s_is_row) l_13 c_13 k_13, PySem.W.mg_of X G a_13⟩
    d_is_setting := ⟨fun_mk (st := s_is_setting) l_14 c_14 k_14, PySem.W.mg_of X G a_14⟩
    d_need_setting := ⟨fun_mk (st := s_need_setting) l_15 c_15 k_15, PySem.W.mg_of X G a_15⟩
    d_need_widths := ⟨fun_mk (st := s_need_widths) l_16 c_16 k_16, PySem.W.mg_of X G a_16⟩
    d_plain_row := ⟨fun_mk (st := s_plain_row) l_17 c_17 k_17, PySem.W.mg_of X G a_17⟩
    d_plain := ⟨fun_mk (st := s_plain) l_18 c_18 k_18, PySem.W.mg_of X G a_18⟩
    d_closed_row := ⟨fun_mk (st := s_closed_row) l_19 c_19 k_19, PySem.W.mg_of X G a_19⟩
    d_closed := ⟨fun_mk (st := s_closed) l_20 c_20 k_20, PySem.W.mg_of X G a_20⟩
    d__law_cell := ⟨fun_mk (st := s__law_cell) l_22 c_22 k_22, PySem.W.mg_of X G a_22⟩
    d__law_draw := ⟨fun_mk (st := s__law_draw) l_23 c_23 k_23, PySem.W.mg_of X G a_23⟩
    d__law_values := ⟨fun_mk (st := s__law_values) l_24 c_24 k_24, PySem.W.mg_of X G a_24⟩
    d__law_frame := ⟨fun_mk (st := s__law_frame) l_25 c_25 k_25, PySem.W.mg_of X G a_25⟩
    d__law_setting := ⟨fun_mk (st := s__law_setting) l_26 c_26 k_26, PySem.W.mg_of X G a_26⟩
    d__law_closed := ⟨fun_mk (st := s__law_closed) l_28 c_28 k_28, PySem.W.mg_of X G a_28⟩
    d__law_same := ⟨fun_mk (st := s__law_same) l_29 c_29 k_29, PySem.W.mg_of X G a_29⟩
    d__law_width := ⟨fun_mk (st := s__law_width) l_30 c_30 k_30, PySem.W.mg_of X G a_30⟩
    d__law_right := ⟨fun_mk (st := s__law_right) l_31 c_31 k_31, PySem.W.mg_of X G a_31⟩
    d_law := ⟨fun_mk (st := s_law) l_32 c_32 k_32, PySem.W.mg_of X G a_32⟩
    k_MOST_UNKNOWNS := ⟨_, PySem.W.mg_of X G g_MOST_UNKNOWNS⟩
    k_MOST_WIDTH := ⟨_, PySem.W.mg_of X G g_MOST_WIDTH⟩
    n_ValueError := PySem.W.mg_none_of X G z_ValueError
    n_abs := PySem.W.mg_none_of X G z_abs
    n_all := PySem.W.mg_none_of X G z_all
    n_int := PySem.W.mg_none_of X G z_int
    n_isinstance := PySem.W.mg_none_of X G z_isinstance
    n_len := PySem.W.mg_none_of X G z_len
    n_list := PySem.W.mg_none_of X G z_list
    n_max := PySem.W.mg_none_of X G z_max
    n_min := PySem.W.mg_none_of X G z_min
    n_range := PySem.W.mg_none_of X G z_range
    n_repr := PySem.W.mg_none_of X G z_repr
    n_set := PySem.W.mg_none_of X G z_set
    n_sorted := PySem.W.mg_none_of X G z_sorted
    n_tuple := PySem.W.mg_none_of X G z_tuple
    n_type := PySem.W.mg_none_of X G z_type
    n_zip := PySem.W.mg_none_of X G z_zip
  }
  exact ⟨PySem.W.fnOf "law" "law" (defArgs s_law) (defBody s_law) (defScope s_law) .none kV32 dc32 pm32 an32 cd32 ct32, fun s v => .of_eq rfl, fun base _ _ => ok_law T⟩
theorem walk {l : PySem.W.OpenLaw} {q : Program} {loose : List Str} {XP : (Str → Option Value) → Heap → Prop} {YP : World → Heap → Prop} {d : DefRec} {K : Params → PySem.W.Frag} (hn : l.most = some 63) (hdf : d.params.defaults = [])
    (hY : ∀ (w : World) (h : Heap), YP w h → (K w.params).In h)
    (F : ∀ (w : World) (mg : Str → Option Value) (fa : Addr) (h : Heap), (K w.params).In h → h.Ns mainGlobals mg → mg d.name = some (.ref fa) →
      ∃ fd : FuncData, (∀ (s : Shared) (u : Value), BindsTo s fd ⟨[u], []⟩ [("script", u)]) ∧ ∀ base : Heap, (K w.params).In base → base.Ns mainGlobals mg → FnG l.prog w (K w.params) mg base CX0 8 fa fd ["script"] (spLaw (K w.params))) :
    PySem.W.WalkO q loose XP YP l.row.toRowW d [] (fun f vs => PySem.call f vs) :=
  walkG (n := 63) (k := 8) (x := "script") (CX := fun _ => CX0) (sp := fun w => spLaw (K w.params)) hn (by decide) hdf ⟨rfl, by decide, by decide⟩ hY F (fun _ _ a ns hl hS => ⟨a, ns, rfl, hS, hl, fun _ => rfl⟩) fun _ _ _ _ _ z => z
end Law
open PySem PySem.W PyProof.Rows in
set_option maxRecDepth 100000 in
set_option maxHeartbeats 0 in
theorem PySem.Challenge.cw_unknowncorners_k10_settings_closed_holds : PySem.Challenge.rw_unknowncorners_k10_settings_closed.Holds := by
  w_on; o_law; k_head; (case hw => w_witness2)
  k_fill
  refine Law.walk (l := PySem.Challenge.rw_unknowncorners_k10_settings_closed) rfl rfl (fun w h Y => PySem.W.kIn_of Y) ?F
  case F =>
    intro w mg fa h KX G hmg
    refine' Law.all_mk KX G hmg ?a_7 ?l_7 ?c_7 ?k_7 ?a_8 ?l_8 ?c_8 ?k_8 ?a_9 ?l_9 ?c_9 ?k_9 ?a_10 ?l_10 ?c_10 ?k_10 ?a_13 ?l_13 ?c_13 ?k_13 ?a_14 ?l_14 ?c_14 ?k_14 ?a_15 ?l_15 ?c_15 ?k_15 ?a_16 ?l_16 ?c_16 ?k_16 ?a_17 ?l_17 ?c_17 ?k_17 ?a_18 ?l_18 ?c_18 ?k_18 ?a_19 ?l_19 ?c_19 ?k_19 ?a_20 ?l_20 ?c_20 ?k_20 ?a_22 ?l_22 ?c_22 ?k_22 ?a_23 ?l_23 ?c_23 ?k_23 ?a_24 ?l_24 ?c_24 ?k_24 ?a_25 ?l_25 ?c_25 ?k_25 ?a_26 ?l_26 ?c_26 ?k_26 ?a_28 ?l_28 ?c_28 ?k_28 ?a_29 ?l_29 ?c_29 ?k_29 ?a_30 ?l_30 ?c_30 ?k_30 ?a_31 ?l_31 ?c_31 ?k_31 ?a_32 ?l_32 ?c_32 ?k_32 ?g_MOST_UNKNOWNS ?g_MOST_WIDTH ?z_ValueError ?z_abs ?z_all ?z_int ?z_isinstance ?z_len ?z_list ?z_max ?z_min ?z_range ?z_repr ?z_set ?z_sorted ?z_tuple ?z_type ?z_zip
    (case a_7 => k_is)
    (case l_7 => k_is)
    (case c_7 => k_is)
    (case k_7 => k_is)
    (case a_8 => k_is)
    (case l_8 => k_is)
    (case c_8 => k_is)
    (case k_8 => k_is)
    (case a_9 => k_is)
    (case l_9 => k_is)
    (case c_9 => k_is)
    (case k_9 => k_is)
    (case a_10 => k_is)
    (case l_10 => k_is)
    (case c_10 => k_is)
    (case k_10 => k_is)
    (case a_13 => k_is)
    (case l_13 => k_is)
    (case c_13 => k_is)
    (case k_13 => k_is)
    (case a_14 => k_is)
    (case l_14 => k_is)
    (case c_14 => k_is)
    (case k_14 => k_is)
    (case a_15 => k_is)
    (case l_15 => k_is)
    (case c_15 => k_is)
    (case k_15 => k_is)
    (case a_16 => k_is)
    (case l_16 => k_is)
    (case c_16 => k_is)
    (case k_16 => k_is)
    (case a_17 => k_is)
    (case l_17 => k_is)
    (case c_17 => k_is)
    (case k_17 => k_is)
    (case a_18 => k_is)
    (case l_18 => k_is)
    (case c_18 => k_is)
    (case k_18 => k_is)
    (case a_19 => k_is)
    (case l_19 => k_is)
    (case c_19 => k_is)
    (case k_19 => k_is)
    (case a_20 => k_is)
    (case l_20 => k_is)
    (case c_20 => k_is)
    (case k_20 => k_is)
    (case a_22 => k_is)
    (case l_22 => k_is)
    (case c_22 => k_is)
    (case k_22 => k_is)
    (case a_23 => k_is)
    (case l_23 => k_is)
    (case c_23 => k_is)
    (case k_23 => k_is)
    (case a_24 => k_is)
    (case l_24 => k_is)
    (case c_24 => k_is)
    (case k_24 => k_is)
    (case a_25 => k_is)
    (case l_25 => k_is)
    (case c_25 => k_is)
    (case k_25 => k_is)
    (case a_26 => k_is)
    (case l_26 => k_is)
    (case c_26 => k_is)
    (case k_26 => k_is)
    (case a_28 => k_is)
    (case l_28 => k_is)
    (case c_28 => k_is)
    (case k_28 => k_is)
    (case a_29 => k_is)
    (case l_29 => k_is)
    (case c_29 => k_is)
    (case k_29 => k_is)
    (case a_30 => k_is)
    (case l_30 => k_is)
    (case c_30 => k_is)
    (case k_30 => k_is)
    (case a_31 => k_is)
    (case l_31 => k_is)
    (case c_31 => k_is)
    (case k_31 => k_is)
    (case a_32 => k_is)
    (case l_32 => k_is)
    (case c_32 => k_is)
    (case k_32 => k_is)
    (case g_MOST_UNKNOWNS => k_is)
    (case g_MOST_WIDTH => k_is)
    (case z_ValueError => k_is)
    (case z_abs => k_is)
    (case z_all => k_is)
    (case z_int => k_is)
    (case z_isinstance => k_is)
    (case z_len => k_is)
    (case z_list => k_is)
    (case z_max => k_is)
    (case z_min => k_is)
    (case z_range => k_is)
    (case z_repr => k_is)
    (case z_set => k_is)
    (case z_sorted => k_is)
    (case z_tuple => k_is)
    (case z_type => k_is)
    (case z_zip => k_is)

