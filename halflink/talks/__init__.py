"""Words, talks, and machines that are alike."""
