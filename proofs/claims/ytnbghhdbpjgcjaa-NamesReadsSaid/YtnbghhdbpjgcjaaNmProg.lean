/-
  The contracts of the program's names, together: what each of its nine functions comes to, as a Lean function of the texts.
-/
import Derived.Test.YtnbghhdbpjgcjaaNmTupP
import Derived.Test.YtnbghhdbpjgcjaaNmShowP
import Derived.Test.YtnbghhdbpjgcjaaNmLessP
