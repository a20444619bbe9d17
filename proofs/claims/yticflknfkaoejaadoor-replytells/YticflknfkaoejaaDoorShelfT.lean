/- The contracts of the library, behind their other name. -/
import Derived.Test.YticflknfkaoejaaDoorShelf
