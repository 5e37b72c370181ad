"""What copies do to holes, and what they see."""
