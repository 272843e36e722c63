/- What comes in as lists: integers, and pieces of bytes, by what it imports. -/
import Derived.Test.YtanloclkbdameaaInp
import Derived.Test.YtanloclkbdameaaInk
